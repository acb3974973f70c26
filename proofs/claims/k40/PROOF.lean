import PyProof.Rows.All
import Wide.All
import OpenK.AllK
import Wide.FinOn
import HandS.ForMost
import HandS.Wide
import HandS.NoneIn
import HandS.IsInst
import HandS.StrMore
import HandS.Defaults
import KE.KEqSeq
import KE.KEqDeep
import HandS.ReplaceLit
import HandS.MakeKwOnly
import HandS.Walk
import HandS.FStr
import HandS.ReplaceList
import HandS.Star
import PySem.Challenge.RW_handedtext_k40_papers
set_option Elab.async false
set_option linter.all false
set_option maxRecDepth 100000
set_option maxHeartbeats 4000000
set_option exponentiation.threshold 3000
open PySem L2
local macro_rules | `(tactic| walk_at "rd") => `(tactic| repeat (first | refine ⟨_, rfl, ?_⟩ | refine ⟨_, _, rfl, rfl, ?_⟩ | refine .inl ⟨_, rfl, ?_⟩))
namespace HT
open PySem L2
def top (i : Nat) : Stmt := PySem.Challenge.pw_handedtext_k40_papers.main.body.getD i (.Pass ⟨0, 0, 0, 0⟩)
abbrev s_is_int : Stmt := top 10
abbrev s_is_int_between : Stmt := top 11
abbrev s_check_value : Stmt := top 12
abbrev s_check_side : Stmt := top 15
abbrev s_is_side : Stmt := top 16
abbrev s_text_of : Stmt := top 22
abbrev s_check_style : Stmt := top 23
abbrev s_grouped : Stmt := top 24
abbrev s_mark : Stmt := top 25
abbrev s_read_text : Stmt := top 26
abbrev s_past_whole : Stmt := top 27
abbrev s_past_groups : Stmt := top 28
abbrev s_past_places : Stmt := top 29
abbrev s_past_digits : Stmt := top 30
abbrev s_known_entries : Stmt := top 36
abbrev s_is_formed : Stmt := top 37
abbrev s_are_lines : Stmt := top 38
abbrev s_names_fit : Stmt := top 39
abbrev s_is_name : Stmt := top 40
abbrev s_is_known : Stmt := top 41
abbrev s_is_in_set : Stmt := top 42
abbrev s_worths_fit : Stmt := top 43
abbrev s_text_fits : Stmt := top 44
abbrev s_paper_text : Stmt := top 47
abbrev s_lines_of : Stmt := top 48
abbrev s_side_line : Stmt := top 49
abbrev s_read_paper : Stmt := top 50
abbrev s_entry_of : Stmt := top 52
abbrev s_side_entry_of : Stmt := top 53
abbrev s_is_number : Stmt := top 54
abbrev s_L_source : Stmt := top 56
abbrev s_L_draw : Stmt := top 57
abbrev s_L_pick : Stmt := top 58
abbrev s_L_great : Stmt := top 59
abbrev s_L_ten : Stmt := top 60
abbrev s_L_step : Stmt := top 61
abbrev s_L_side : Stmt := top 62
abbrev s_L_text : Stmt := top 63
abbrev s_L_entries : Stmt := top 64
abbrev s_L_lines : Stmt := top 65
abbrev s_L_loose : Stmt := top 66
abbrev s_law : Stmt := top 67
/- is_int: 0:thing -/
theorem sc_is_int : FnScope ["thing"] ["thing"] (defScope s_is_int) := ⟨rfl, rfl, rfl, by decide +kernel, rfl, by decide +kernel, by decide +kernel⟩
/- is_int_between: 0:thing 1:least 2:most -/
theorem sc_is_int_between : FnScope ["thing", "least", "most"] ["thing", "least", "most"] (defScope s_is_int_between) := ⟨rfl, rfl, rfl, by decide +kernel, rfl, by decide +kernel, by decide +kernel⟩
/- check_value: 0:value -/
theorem sc_check_value : FnScope ["value"] ["value"] (defScope s_check_value) := ⟨rfl, rfl, rfl, by decide +kernel, rfl, by decide +kernel, by decide +kernel⟩
/- check_side: 0:side 1:offset 2:step 3:mode -/
theorem sc_check_side : FnScope ["side", "offset", "step", "mode"] ["side"] (defScope s_check_side) := ⟨rfl, rfl, rfl, by decide +kernel, rfl, by decide +kernel, by decide +kernel⟩
/- is_side: 0:thing -/
theorem sc_is_side : FnScope ["thing"] ["thing"] (defScope s_is_side) := ⟨rfl, rfl, rfl, by decide +kernel, rfl, by decide +kernel, by decide +kernel⟩
/- text_of: 0:figure 1:places 2:sign 3:group 4:width 5:digits 6:point 7:text -/
theorem sc_text_of : FnScope ["figure", "places", "sign", "group", "width", "digits", "point", "text"] ["figure", "places", "sign", "group", "width"] (defScope s_text_of) := ⟨rfl, rfl, rfl, by decide +kernel, rfl, by decide +kernel, by decide +kernel⟩
/- _check_style: 0:sign 1:group 2:width -/
theorem sc_check_style : FnScope ["sign", "group", "width"] ["sign", "group", "width"] (defScope s_check_style) := ⟨rfl, rfl, rfl, by decide +kernel, rfl, by decide +kernel, by decide +kernel⟩
/- _grouped: 0:digits 1:first 2:parts 3:at -/
theorem sc_grouped : FnScope ["digits", "first", "parts", "at"] ["digits"] (defScope s_grouped) := ⟨rfl, rfl, rfl, by decide +kernel, rfl, by decide +kernel, by decide +kernel⟩
/- _mark: 0:figure 1:sign -/
theorem sc_mark : FnScope ["figure", "sign"] ["figure", "sign"] (defScope s_mark) := ⟨rfl, rfl, rfl, by decide +kernel, rfl, by decide +kernel, by decide +kernel⟩
/- read_text: 0:text 1:start 2:whole 3:point 4:end 5:figure -/
theorem sc_read_text : FnScope ["text", "start", "whole", "point", "end", "figure"] ["text"] (defScope s_read_text) := ⟨rfl, rfl, rfl, by decide +kernel, rfl, by decide +kernel, by decide +kernel⟩
/- _past_whole: 0:text 1:at 2:end -/
theorem sc_past_whole : FnScope ["text", "at", "end"] ["text", "at"] (defScope s_past_whole) := ⟨rfl, rfl, rfl, by decide +kernel, rfl, by decide +kernel, by decide +kernel⟩
/- _past_groups: 0:text 1:at 2:end -/
theorem sc_past_groups : FnScope ["text", "at", "end"] ["text", "at"] (defScope s_past_groups) := ⟨rfl, rfl, rfl, by decide +kernel, rfl, by decide +kernel, by decide +kernel⟩
/- _past_places: 0:text 1:at 2:end -/
theorem sc_past_places : FnScope ["text", "at", "end"] ["text", "at"] (defScope s_past_places) := ⟨rfl, rfl, rfl, by decide +kernel, rfl, by decide +kernel, by decide +kernel⟩
/- _past_digits: 0:text 1:at 2:most 3:end -/
theorem sc_past_digits : FnScope ["text", "at", "most", "end"] ["text", "at", "most"] (defScope s_past_digits) := ⟨rfl, rfl, rfl, by decide +kernel, rfl, by decide +kernel, by decide +kernel⟩
/- known_entries: 0:entries 1:known 2:entry -/
theorem sc_known_entries : FnScope ["entries", "known", "entry"] ["entries"] (defScope s_known_entries) := ⟨rfl, rfl, rfl, by decide +kernel, rfl, by decide +kernel, by decide +kernel⟩
/- _is_formed: 0:thing 1:kind -/
theorem sc_is_formed : FnScope ["thing", "kind"] ["thing"] (defScope s_is_formed) := ⟨rfl, rfl, rfl, by decide +kernel, rfl, by decide +kernel, by decide +kernel⟩
/- _are_lines: 0:thing 1:line -/
theorem sc_are_lines : FnScope ["thing", "line"] ["thing"] (defScope s_are_lines) := ⟨rfl, rfl, rfl, by decide +kernel, rfl, by decide +kernel, by decide +kernel⟩
/- names_fit: 0:entry 1:known 2:name 3:_ -/
theorem sc_names_fit : FnScope ["entry", "known", "name", "_"] ["entry", "known"] (defScope s_names_fit) := ⟨rfl, rfl, rfl, by decide +kernel, rfl, by decide +kernel, by decide +kernel⟩
/- _is_name: 0:thing 1:letter -/
theorem sc_is_name : FnScope ["thing", "letter"] ["thing"] (defScope s_is_name) := ⟨rfl, rfl, rfl, by decide +kernel, rfl, by decide +kernel, by decide +kernel⟩
/- is_known: 0:kind 1:name 2:known -/
theorem sc_is_known : FnScope ["kind", "name", "known"] ["kind", "name", "known"] (defScope s_is_known) := ⟨rfl, rfl, rfl, by decide +kernel, rfl, by decide +kernel, by decide +kernel⟩
/- is_in_set: 0:name 1:group 2:known 3:_ 4:names -/
theorem sc_is_in_set : FnScope ["name", "group", "known", "_", "names"] ["name", "group", "known"] (defScope s_is_in_set) := ⟨rfl, rfl, rfl, by decide +kernel, rfl, by decide +kernel, by decide +kernel⟩
/- worths_fit: 0:entry 1:known 2:name 3:text -/
theorem sc_worths_fit : FnScope ["entry", "known", "name", "text"] ["entry", "known"] (defScope s_worths_fit) := ⟨rfl, rfl, rfl, by decide +kernel, rfl, by decide +kernel, by decide +kernel⟩
/- text_fits: 0:name 1:text 2:known 3:_ 4:places 5:figure -/
theorem sc_text_fits : FnScope ["name", "text", "known", "_", "places", "figure"] ["name", "text", "known"] (defScope s_text_fits) := ⟨rfl, rfl, rfl, by decide +kernel, rfl, by decide +kernel, by decide +kernel⟩
/- paper_text: 0:entries 1:lines 2:entry 3:line -/
theorem sc_paper_text : FnScope ["entries", "lines", "entry", "line"] ["entries"] (defScope s_paper_text) := ⟨rfl, rfl, rfl, by decide +kernel, rfl, by decide +kernel, by decide +kernel⟩
/- _lines_of: 0:entry 1:_ 2:name 3:names 4:group 5:lines 6:part 7:text -/
theorem sc_lines_of : FnScope ["entry", "_", "name", "names", "group", "lines", "part", "text"] ["entry"] (defScope s_lines_of) := ⟨rfl, rfl, rfl, by decide +kernel, rfl, by decide +kernel, by decide +kernel⟩
/- _side_line: 0:entry 1:_ 2:name 3:side 4:places 5:offset 6:step 7:mode 8:line -/
theorem sc_side_line : FnScope ["entry", "_", "name", "side", "places", "offset", "step", "mode", "line"] ["entry"] (defScope s_side_line) := ⟨rfl, rfl, rfl, by decide +kernel, rfl, by decide +kernel, by decide +kernel⟩
/- read_paper: 0:text 1:lines 2:reader 3:number 4:line 5:word 6:words 7:reason -/
theorem sc_read_paper : FnScope ["text", "lines", "reader", "number", "line", "word", "words", "reason"] ["text"] (defScope s_read_paper) := ⟨rfl, rfl, rfl, by decide +kernel, rfl, by decide +kernel, by decide +kernel⟩
/- _entry_of: 0:words -/
theorem sc_entry_of : FnScope ["words"] ["words"] (defScope s_entry_of) := ⟨rfl, rfl, rfl, by decide +kernel, rfl, by decide +kernel, by decide +kernel⟩
/- _side_entry_of: 0:words 1:_ 2:name 3:step 4:mode 5:places_word 6:places 7:at_word 8:offset 9:word -/
theorem sc_side_entry_of : FnScope ["words", "_", "name", "step", "mode", "places_word", "places", "at_word", "offset", "word"] ["words"] (defScope s_side_entry_of) := ⟨rfl, rfl, rfl, by decide +kernel, rfl, by decide +kernel, by decide +kernel⟩
/- _is_number: 0:word 1:digits 2:digit -/
theorem sc_is_number : FnScope ["word", "digits", "digit"] ["word"] (defScope s_is_number) := ⟨rfl, rfl, rfl, by decide +kernel, rfl, by decide +kernel, by decide +kernel⟩
/- _law_source: 0:_law_script 1:_law_cells 2:_law_k -/
theorem sc_L_source : FnScope ["_law_script", "_law_cells", "_law_k"] ["_law_script"] (defScope s_L_source) := ⟨rfl, rfl, rfl, by decide +kernel, rfl, by decide +kernel, by decide +kernel⟩
/- _law_draw: 0:_law_source_here 1:_law_limit 2:_law_cells 3:_law_turn 4:_law_place 5:_law_cell 6:_law_number -/
theorem sc_L_draw : FnScope ["_law_source_here", "_law_limit", "_law_cells", "_law_turn", "_law_place", "_law_cell", "_law_number"] ["_law_source_here", "_law_limit"] (defScope s_L_draw) := ⟨rfl, rfl, rfl, by decide +kernel, rfl, by decide +kernel, by decide +kernel⟩
/- _law_pick: 0:_law_source_here 1:_law_values -/
theorem sc_L_pick : FnScope ["_law_source_here", "_law_values"] ["_law_source_here", "_law_values"] (defScope s_L_pick) := ⟨rfl, rfl, rfl, by decide +kernel, rfl, by decide +kernel, by decide +kernel⟩
/- _law_great: 0:_law_source_here 1:_law_limit 2:_law_total 3:_law_k -/
theorem sc_L_great : FnScope ["_law_source_here", "_law_limit", "_law_total", "_law_k"] ["_law_source_here", "_law_limit"] (defScope s_L_great) := ⟨rfl, rfl, rfl, by decide +kernel, rfl, by decide +kernel, by decide +kernel⟩
/- _law_ten: 0:_law_many 1:_law_found 2:_law_k -/
theorem sc_L_ten : FnScope ["_law_many", "_law_found", "_law_k"] ["_law_many"] (defScope s_L_ten) := ⟨rfl, rfl, rfl, by decide +kernel, rfl, by decide +kernel, by decide +kernel⟩
/- _law_step: 0:_law_source_here 1:_law_most 2:_law_joint -/
theorem sc_L_step : FnScope ["_law_source_here", "_law_most", "_law_joint"] ["_law_source_here", "_law_most"] (defScope s_L_step) := ⟨rfl, rfl, rfl, by decide +kernel, rfl, by decide +kernel, by decide +kernel⟩
/- _law_side: 0:_law_source_here 1:_law_most 2:_law_steps 3:_law_offset -/
theorem sc_L_side : FnScope ["_law_source_here", "_law_most", "_law_steps", "_law_offset"] ["_law_source_here", "_law_most"] (defScope s_L_side) := ⟨rfl, rfl, rfl, by decide +kernel, rfl, by decide +kernel, by decide +kernel⟩
/- _law_text: 0:_law_figure 1:_law_places 2:_law_digits 3:_law_first 4:_law_text_here -/
theorem sc_L_text : FnScope ["_law_figure", "_law_places", "_law_digits", "_law_first", "_law_text_here"] ["_law_figure", "_law_places"] (defScope s_L_text) := ⟨rfl, rfl, rfl, by decide +kernel, rfl, by decide +kernel, by decide +kernel⟩
/- _law_entries: 0:_law_source_here 1:_law_names 2:_law_first 3:_law_found 4:_law_sides 5:_law_k 6:_law_side_here 7:_law_places 8:_law_turn 9:_law_some 10:_law_name 11:_law_lines_here 12:_law_figure -/
theorem sc_L_entries : FnScope ["_law_source_here", "_law_names", "_law_first", "_law_found", "_law_sides", "_law_k", "_law_side_here", "_law_places", "_law_turn", "_law_some", "_law_name", "_law_lines_here", "_law_figure"] ["_law_source_here"] (defScope s_L_entries) := ⟨rfl, rfl, rfl, by decide +kernel, rfl, by decide +kernel, by decide +kernel⟩
/- _law_lines: 0:_law_entry 1:_law_offset 2:_law_steps 3:_law_mode 4:_law_line 5:_law_found 6:_law_name 7:_law_text_here -/
theorem sc_L_lines : FnScope ["_law_entry", "_law_offset", "_law_steps", "_law_mode", "_law_line", "_law_found", "_law_name", "_law_text_here"] ["_law_entry"] (defScope s_L_lines) := ⟨rfl, rfl, rfl, by decide +kernel, rfl, by decide +kernel, by decide +kernel⟩
/- _law_loose: 0:_law_source_here 1:_law_text_here 2:_law_found 3:_law_line 4:_law_k 5:_law_wide -/
theorem sc_L_loose : FnScope ["_law_source_here", "_law_text_here", "_law_found", "_law_line", "_law_k", "_law_wide"] ["_law_source_here", "_law_text_here"] (defScope s_L_loose) := ⟨rfl, rfl, rfl, by decide +kernel, rfl, by decide +kernel, by decide +kernel⟩
/- law: 0:_law_script 1:_law_source_here 2:_law_turn 3:_law_entries_here 4:_law_kept 5:_law_due 6:_law_entry 7:_law_line 8:_law_text_here 9:_law_found -/
theorem sc_law : FnScope ["_law_script", "_law_source_here", "_law_turn", "_law_entries_here", "_law_kept", "_law_due", "_law_entry", "_law_line", "_law_text_here", "_law_found"] ["_law_script"] (defScope s_law) := ⟨rfl, rfl, rfl, by decide +kernel, rfl, by decide +kernel, by decide +kernel⟩
/-- the i-th row of a class -/
def inCls (s : Stmt) (i : Nat) : Stmt := match s with
  | .ClassDef _ _ _ body .. => body.getD i (.Pass ⟨0, 0, 0, 0⟩)
  | _ => .Pass ⟨0, 0, 0, 0⟩
abbrev s_R_init : Stmt := inCls (top 51) 0
theorem sc_R_init : FnScope ["self"] ["self"] (defScope s_R_init) := ⟨rfl, rfl, rfl, by decide +kernel, rfl, by decide +kernel, by decide +kernel⟩
abbrev s_R_fault : Stmt := inCls (top 51) 1
theorem sc_R_fault : FnScope ["self", "words"] ["self", "words"] (defScope s_R_fault) := ⟨rfl, rfl, rfl, by decide +kernel, rfl, by decide +kernel, by decide +kernel⟩
abbrev s_R_entry : Stmt := inCls (top 51) 2
theorem sc_R_entry : FnScope ["self", "words", "entry"] ["self", "words"] (defScope s_R_entry) := ⟨rfl, rfl, rfl, by decide +kernel, rfl, by decide +kernel, by decide +kernel⟩
abbrev s_R_within : Stmt := inCls (top 51) 3
theorem sc_R_within : FnScope ["self", "words", "name", "text"] ["self", "words"] (defScope s_R_within) := ⟨rfl, rfl, rfl, by decide +kernel, rfl, by decide +kernel, by decide +kernel⟩
abbrev s_R_end : Stmt := inCls (top 51) 4
theorem sc_R_end : FnScope ["self", "kind", "name", "group", "_"] ["self"] (defScope s_R_end) := ⟨rfl, rfl, rfl, by decide +kernel, rfl, by decide +kernel, by decide +kernel⟩
abbrev s_R_add : Stmt := inCls (top 51) 5
theorem sc_R_add : FnScope ["self", "entry"] ["self", "entry"] (defScope s_R_add) := ⟨rfl, rfl, rfl, by decide +kernel, rfl, by decide +kernel, by decide +kernel⟩
end HT
namespace L2
open PySem PySem.Spec PyProof.Rows
/-- powers of great numbers -/
def CPowW (i j : Int) : Prop := 0 ≤ j ∧ (Builtin.Int.intBits i : Int) * j ≤ 2 ^ 27
theorem op_powW {X : Cx} : OpR X (binaryOp .Pow) (rI CPowW fun i j => .int (i ^ j.toNat)) := opI fun _ _ _ _ _ _ _ hc q => pow_int hc.1 hc.2 q
end L2
namespace HT
open PySem L2
/-- the law's source of draws: a list of its cells' list and the turn -/
structure Src (H : Hp) (a c : Addr) (t : Nat) : Prop where
  ne : a ≠ c
  ob : H a = some (.lst [.ref c, .int (t : Int)])
  cl : ∃ cs : List Int, H c = some (.lst (cs.map V.int)) ∧ 0 < cs.length ∧ cs.length ≤ 63
/-- nothing else is touched -/
def Oth (a c : Addr) (H H' : Hp) : Prop := ∀ b o, H b = some o → b ≠ a → b ≠ c → H' b = some o
theorem Oth.refl (a c : Addr) (H : Hp) : Oth a c H H := fun _ _ h _ _ => h
theorem Oth.trans {a c : Addr} {H H1 H2 : Hp} (x : Oth a c H H1) (y : Oth a c H1 H2) : Oth a c H H2 := fun b o h n m => y b o (x b o h n m) n m
theorem Oth.new {a c p : Addr} {H H1 : Hp} {o : HO} (x : Oth a c H H1) (n : H1 p = none) : Oth a c H (upd H1 p o) := fun b u h na nc => by
  rw [upd_ne (ne_of_none (x b u h na nc) n)]
  exact x b u h na nc
theorem Src.new {a c p : Addr} {H : Hp} {t : Nat} {o : HO} (S : Src H a c t) (n : H p = none) : Src (upd H p o) a c t := by
  obtain ⟨cs, h, l⟩ := S.cl
  exact ⟨S.ne, by rw [upd_ne (ne_of_none S.ob n)]; exact S.ob, cs, by rw [upd_ne (ne_of_none h n)]; exact h, l⟩
theorem Src.of_same {a c : Addr} {H H' : Hp} {t : Nat} (S : Src H a c t) (e : Same H H') : Src H' a c t := by
  obtain ⟨cs, h, l⟩ := S.cl
  exact ⟨S.ne, e _ _ S.ob, cs, e _ _ h, l⟩
theorem Src.na {a c p : Addr} {H : Hp} {t : Nat} (S : Src H a c t) (n : H p = none) : p ≠ a ∧ p ≠ c := by
  obtain ⟨cs, h, l⟩ := S.cl
  exact ⟨(ne_of_none S.ob n).symm, (ne_of_none h n).symm⟩
theorem Src.nt {a c p : Addr} {H : Hp} {t : Nat} {xs : List V} (S : Src H a c t) (n : H p = some (.tup xs)) : p ≠ a ∧ p ≠ c := by
  obtain ⟨cs, h, l⟩ := S.cl
  exact ⟨ne_of n S.ob (by intro z; cases z), ne_of n h (by intro z; cases z)⟩
def spSource (K : PySem.W.Frag) : Sp := fun vs H Q _ => ∃ (l : Addr) (ns : List Int), vs = [.ref l] ∧ SqL K H l (ns.map V.int) ∧ ns.length ≤ 63 ∧
  ∀ a c H', Same H H' → H a = none → H c = none → Src H' a c 0 → Q (.ref a) H'
def spDraw : Sp := fun vs H Q _ => ∃ (a c : Addr) (t : Nat) (lim : Int), vs = [.ref a, .int lim] ∧ Src H a c t ∧ t < 2 ^ 30 ∧ 0 < lim ∧ lim.natAbs.log2 < 9000 ∧
  ∀ k H', 0 ≤ k → k < lim → Src H' a c (t + 1) → Oth a c H H' → Q (.int k) H'
/-- what the walk asks of the names that the text does not bind -/
structure Blt (mg : Str → Option Value) : Prop where
  len : mg "len" = none
  abs : mg "abs" = none
  int : mg "int" = none
  range : mg "range" = none
section
variable {P : Program} {w : World} {K : PySem.W.Frag} {mg : Str → Option Value} {base : Heap}
theorem fdiv_ok (i : Int) {j : Int} (h : 0 < j) (h9 : j.natAbs.log2 < 9000) : CDivW i j := ⟨h, h9⟩
theorem atI_in {xs : List Int} {i : Int} (h0 : 0 ≤ i) (h : i < (xs.length : Int)) : atI (xs.map V.int) i = some (.int (xs.getD i.toNat 0)) := by
  have e : ixN (xs.map V.int).length i = some i.toNat := by
    unfold ixN
    rw [List.length_map, if_pos h0, if_pos h]
  unfold atI
  rw [e]
  show (xs.map V.int)[i.toNat]? = _
  have hl : i.toNat < xs.length := by omega
  rw [List.getElem?_map, List.getElem?_eq_getElem hl, List.getD_eq_getElem?_getD, List.getElem?_eq_getElem hl]
  rfl
theorem ixN_in {n : Nat} {i : Int} (h0 : 0 ≤ i) (h : i < (n : Int)) : ixN n i = some i.toNat := by
  unfold ixN
  rw [if_pos h0, if_pos h]
theorem b_mod (x : Int) : -(2 ^ 64) < x % 2147483629 ∧ x % 2147483629 < 2 ^ 64 := by omega
theorem b_mod1 (x : Int) : -(2 ^ 64) < x % 2147483647 ∧ x % 2147483647 < 2 ^ 64 := by omega
theorem b_t {t : Nat} (h : t < 2 ^ 30) : -(2 ^ 64) < (t : Int) ∧ (t : Int) < 2 ^ 64 := by omega
theorem b_tt {t : Nat} (h : t < 2 ^ 30) : -(2 ^ 64) < (t : Int) * t ∧ (t : Int) * t < 2 ^ 64 := by
  have h1 : t * t < 2 ^ 30 * 2 ^ 30 := Nat.mul_lt_mul'' h h
  have h2 : ((t * t : Nat) : Int) = (t : Int) * t := Int.natCast_mul t t
  omega
theorem set_ints (xs : List Int) (j : Nat) (y : Int) : (xs.map V.int).set j (.int y) = (xs.set j y).map V.int := by
  rw [List.map_set]
theorem ok_draw {f : Addr} {fd : FuncData} (F : Fun K "_law_draw" "_law_draw" s_L_draw f fd) (B : Blt mg) : FnOk P w K mg base CX0 1 f fd ["_law_source_here", "_law_limit"] spDraw := by
  refine F.ok sc_L_draw (fun vs H Q E h => ?_) (fun cdv A outer s H vs Q E hr h => ?_)
  · obtain ⟨a, c, t, lim, rfl, _⟩ := h
    rfl
  · obtain ⟨a, c, t, lim, rfl, S, ht, hl0, hl9, q⟩ := h
    obtain ⟨cs, hc, hn0, hn⟩ := S.cl
    have nd := sc_L_draw.nd
    refine ⟨_, pss_cons (ps_asg (pv 0) (pg_unl (n := 2) (by rfl) (pgs_cons (pg_name (i := 2) nd rfl (Or.inl rfl)) (pgs_cons (pg_name (i := 3) nd rfl (Or.inl rfl)) pgs_nil))))
      (pss_cons (ps_set (i := 4) nd rfl (Or.inl rfl) (pe_op op_mod (pe_callTy call_int1 (by rfl) B.int (by decide +kernel) (pa_cons (pv 3) pa_nil)) (pe_callB call_len_seq (by rfl) B.len PySem.boot_len (pa_cons (pv 2) pa_nil))))
      (pss_cons (ps_set (i := 5) nd rfl (Or.inl rfl) (pe_ix ix_list (pv 2) (pv 4) (fun _ _ => rfl)))
      (pss_cons (ps_asg (pe_op op_add (pv 3) pe_int) (pg_sub (pv 0) pe_int set_list))
      (pss_cons (ps_if (pt_cmpR op_ge (pv 5) (pe_op op_pow pe_int pe_int) (nomark _))
        (pss_cons (ps_asg (pe_op op_fdivW (pv 5) (pv 1)) (pg_sub (pv 2) (pv 4) set_list))
          (pss_one (ps_ret (pe_op op_mod (pe_callTy call_int1 (by rfl) B.int (by decide +kernel) (pa_cons (pv 5) pa_nil)) (pv 1))))) pss_nil)
      (pss_cons (ps_set (i := 6) nd rfl (Or.inl rfl) (pe_op op_mod (pe_callTy call_int1 (by rfl) B.int (by decide +kernel) (pa_cons
          (pe_op op_add (pe_op op_add (pe_op op_mul (pe_op op_mod (pe_callTy call_int1 (by rfl) B.int (by decide +kernel) (pa_cons (pv 5) pa_nil)) pe_int) pe_int) (pe_op op_mul (pe_op op_mul (pv 3) (pv 3)) pe_int)) pe_int) pa_nil)) pe_int))
      (pss_cons (ps_set (i := 6) nd rfl (Or.inl rfl) (pe_op op_mod (pe_callTy call_int1 (by rfl) B.int (by decide +kernel) (pa_cons (pe_op op_mul (pv 6) (pv 6)) pa_nil)) pe_int))
      (pss_cons (ps_set (i := 6) nd rfl (Or.inl rfl) (pe_op op_mod (pe_callTy call_int1 (by rfl) B.int (by decide +kernel) (pa_cons (pe_op op_mul (pv 6) (pv 6)) pa_nil)) pe_int))
      (pss_one (ps_ret (pe_op op_mod (pe_callTy call_int1 (by rfl) B.int (by decide +kernel) (pa_cons (pv 6) pa_nil)) (pv 1))))))))))), ?_⟩
    -- _law_cells, _law_turn = _law_source_here
    walk_at "rd"
    refine ⟨a, _, rfl, SqL.of S.ob, rfl, _, _, rfl, _, _, rfl, rfl, ?_⟩
    -- _law_place
    walk_at "rd"
    have hn0' : (0 : Int) < ((cs.map V.int).length : Nat) := by rw [List.length_map]; omega
    refine ⟨c, _, rfl, .inl (SqL.of hc), _, _, rfl, rfl, hn0', ?_⟩
    have hp0 : 0 ≤ (t : Int) % ((cs.map V.int).length : Nat) := Int.emod_nonneg _ (by omega)
    have hp1 : (t : Int) % ((cs.map V.int).length : Nat) < ((cs.map V.int).length : Nat) := Int.emod_lt_of_pos _ hn0'
    have hp1' : (t : Int) % ((cs.map V.int).length : Nat) < (cs.length : Int) := by rw [List.length_map] at hp1 ⊢; exact hp1
    -- _law_cell
    walk_at "rd"
    refine ⟨c, _, _, _, rfl, rfl, SqL.of hc, atI_in hp0 hp1', ?_⟩
    -- _law_source_here[1] = _law_turn + 1
    walk_at "rd"
    refine ⟨a, _, 1, 1, rfl, rfl, S.ob, rfl, ?_⟩
    have S1 : Src (upd H a (.lst ([V.ref c, V.int t].set 1 (.int ((t : Int) + 1))))) a c (t + 1) := ⟨S.ne, by rw [upd_same]; rfl, cs, by rw [upd_ne S.ne.symm]; exact hc, hn0, hn⟩
    have O1 : Oth a c H (upd H a (.lst ([V.ref c, V.int t].set 1 (.int ((t : Int) + 1))))) := fun b o h na _ => by rw [upd_ne na]; exact h
    have hc1 : upd H a (.lst ([V.ref c, V.int t].set 1 (.int ((t : Int) + 1)))) c = some (.lst (cs.map V.int)) := by rw [upd_ne S.ne.symm]; exact hc
    generalize upd H a (.lst ([V.ref c, V.int t].set 1 (.int ((t : Int) + 1)))) = H1 at S1 O1 hc1 ⊢
    -- if _law_cell >= 10 ** 18
    walk_at "rd"
    refine ⟨⟨by decide, by decide, by decide⟩, ?_⟩
    walk_at "rd"
    refine ite2 (fun _ => ?_) (fun _ => ?_)
    · walk_at "rd"
      refine ⟨fdiv_ok _ hl0 hl9, ?_⟩
      walk_at "rd"
      refine ⟨c, _, _, _, rfl, rfl, hc1, ixN_in hp0 hp1, ?_⟩
      walk_at "rd"
      refine ⟨hl0, ?_⟩
      rw [set_ints]
      refine q _ _ (Int.emod_nonneg _ (by omega)) (Int.emod_lt_of_pos _ hl0) ⟨S1.ne, by rw [upd_ne S1.ne]; exact S1.ob, _, upd_same, by rw [List.length_set]; exact hn0, by rw [List.length_set]; exact hn⟩ fun b o h na nc => ?_
      rw [upd_ne nc]
      exact O1 b o h na nc
    · walk_at "rd"
      refine ⟨(by show (0 : Int) < 2147483629; decide), ?_⟩
      walk_at "rd"
      refine ⟨.inl (b_mod _), ?_⟩
      walk_at "rd"
      refine ⟨.inl (b_t ht), ?_⟩
      walk_at "rd"
      refine ⟨.inl (b_tt ht), ?_⟩
      walk_at "rd"
      refine ⟨(by show (0 : Int) < 2147483647; decide), ?_⟩
      walk_at "rd"
      refine ⟨.inl (b_mod1 _), ?_⟩
      walk_at "rd"
      refine ⟨(by show (0 : Int) < 2147483629; decide), ?_⟩
      walk_at "rd"
      refine ⟨.inl (b_mod _), ?_⟩
      walk_at "rd"
      refine ⟨(by show (0 : Int) < 2147483587; decide), ?_⟩
      walk_at "rd"
      refine ⟨hl0, ?_⟩
      exact q _ _ (Int.emod_nonneg _ (by omega)) (Int.emod_lt_of_pos _ hl0) S1 O1
end
end HT
namespace HT
open PySem L2
/-- a def of the text that may be called by its name, and what it promises -/
structure Cal (P : Program) (w : World) (K : PySem.W.Frag) (mg : Str → Option Value) (base : Heap) (x : Str) (k : Nat) (ps : List Str) (sp : Sp) (f : Addr) (fd : FuncData) : Prop where
  ok : FnOk P w K mg base CX0 k f fd ps sp
  gl : mg x = some (.ref f)
  kp : PySem.W.keepIn K (.ref f) = true
  bd : Binds K fd ps []
theorem pcl {X : Cx} {x : Str} {k j : Nat} {ps : List Str} {sp : Sp} {f : Addr} {fd : FuncData} {e : Expr} {es : List Expr} {t : TA} {p pos : Pos} (C : Cal X.prog X.w X.K X.mg X.base x k ps sp f fd) (hr : Room j X.A) (hj : k ≤ j) (hg : Gl X x) (ha : PA X (e :: es) t)
    (hdb : (x == ("__debug__" : Str)) = false := by decide) (he : starEach (e :: es) X.env = (false, eval e X.env) :: starEach es X.env := by rfl) (hpl : (backTo pos (starEach es X.env)).any (·.1) = false := by rfl) : PE X (.Call (.Name x p) (e :: es) [] pos) (tCall sp [] E0 t) :=
  pe_call C.ok (hr.mono hj) hg C.gl C.kp C.bd .nil pass0 ha hdb he hpl
section
variable {P : Program} {w : World} {K : PySem.W.Frag} {mg : Str → Option Value} {base : Heap}
theorem cut63 {ns : List Int} (h : ns.length ≤ 63) : cutV (ns.map V.int) none (some 63) = ns.map V.int := by
  have e1 : HT.sIx (ns.map V.int).length 0 none = 0 := rfl
  have e2 : HT.sIx (ns.map V.int).length (ns.map V.int).length (some 63) = (ns.map V.int).length := by
    have := HT.sIx_nat (ns.map V.int).length (ns.map V.int).length 63
    rw [show ((63 : Nat) : Int) = 63 from rfl] at this
    rw [this, List.length_map]
    omega
  unfold cutV
  rw [e1, e2, List.drop_zero, Nat.sub_zero, List.take_length]
theorem dpInts (H : Hp) : ∀ ns : List Int, DpAll K H (ns.map V.int) (ns.map PyData.int)
  | [] => .nil
  | n :: r => .cons (.int n) (dpInts H r)
theorem pow_ok : CPowW ((10 : Int) ^ (60 : Int).toNat) 20 := ⟨by decide, by decide +kernel⟩
theorem pow_pos' : (0 : Int) < ((10 : Int) ^ (60 : Int).toNat) ^ (20 : Int).toNat := by decide +kernel
theorem ok_source {f : Addr} {fd : FuncData} (F : Fun K "_law_source" "_law_source" s_L_source f fd) (B : Blt mg) : FnOk P w K mg base CX0 1 f fd ["_law_script"] (spSource K) := by
  refine F.ok sc_L_source (fun vs H Q E h => ?_) (fun cdv A outer s H vs Q E hr h => ?_)
  · obtain ⟨l, ns, rfl, _⟩ := h
    rfl
  · obtain ⟨l, ns, rfl, hL, hn, q⟩ := h
    have nd := sc_L_source.nd
    refine ⟨_, pss_cons (ps_set (i := 1) nd rfl (Or.inl rfl) (pe_slice sl_list (pv 0) po_none (po_some pe_int)))
      (pss_cons (ps_for PassesOwn.never rfl (pi_range1 (by rfl) B.range (pa_cons (pe_callB call_len_seq (by rfl) B.len PySem.boot_len (pa_cons (pv 1) pa_nil)) pa_nil)) (pg_name (i := 2) nd rfl (Or.inl rfl))
        (pss_one (ps_if (pt_cmpR op_ge (pe_callB call_abs (by rfl) B.abs (by decide +kernel) (pa_cons (pe_ix ix_list (pv 1) (pv 2) (fun _ _ => rfl)) pa_nil)) (pe_op op_pow pe_int pe_int) (nomark _))
          (pss_one (ps_asg (pe_op op_mod (pe_callTy call_int1 (by rfl) B.int (by decide +kernel) (pa_cons (pe_ix ix_list (pv 1) (pv 2) (fun _ _ => rfl)) pa_nil)) (pe_op op_powW (pe_op op_pow pe_int pe_int) pe_int)) (pg_sub (pv 1) (pv 2) set_list))) pss_nil)))
      (pss_cons (ps_if (pt_cmpR (op_eqD hr.units) (pv 1) (pe_lst pa_nil) (nomark _)) (pss_one (ps_set (i := 1) nd rfl (Or.inl rfl) (pe_lst (pa_cons pe_int pa_nil)))) pss_nil)
      (pss_one (ps_ret (pe_lst (pa_cons (pv 1) (pa_cons pe_int pa_nil))))))), ?_⟩
    walk_at "rd"
    refine ⟨l, _, rfl, hL, fun p np => ?_⟩
    rw [cut63 hn]
    walk_at "rd"
    refine ⟨p, _, rfl, .inl (SqL.of upd_same), _, rfl, by omega, ?_, ?_⟩
    · show ((ns.map V.int).length : Int) < 2 ^ 62
      rw [List.length_map]
      omega
    have en : ((ns.map V.int).length : Int).toNat = ns.length := by rw [List.length_map]; omega
    rw [en]
    refine for_range (fun i σ H' => ∃ (cs : List Int) (kv : Option V), σ = [some (.ref l), some (.ref p), kv] ∧ H' p = some (.lst (cs.map V.int)) ∧ cs.length = ns.length ∧ Same H H') ⟨ns, none, rfl, upd_same, rfl, fun b o e => by rw [upd_ne (ne_of_none e np)]; exact e⟩ ?_ ?_
    · rintro i σ H' hi ⟨cs, kv, rfl, hp, hl, sm⟩
      have h0 : (0 : Int) ≤ 0 + (i : Int) := by omega
      have h1 : (0 : Int) + (i : Int) < (cs.length : Int) := by omega
      walk_at "rd"
      refine ⟨p, _, _, _, rfl, rfl, SqL.of hp, atI_in h0 h1, ?_⟩
      walk_at "rd"
      refine ⟨⟨by decide, by decide, by decide⟩, ?_⟩
      walk_at "rd"
      refine ite2 (fun _ => ?_) (fun _ => ?_)
      · walk_at "rd"
        refine ⟨p, _, _, _, rfl, rfl, SqL.of hp, atI_in h0 h1, ?_⟩
        walk_at "rd"
        refine ⟨⟨by decide, by decide, by decide⟩, ?_⟩
        walk_at "rd"
        refine ⟨pow_ok, ?_⟩
        walk_at "rd"
        refine ⟨pow_pos', ?_⟩
        walk_at "rd"
        refine ⟨p, _, _, _, rfl, rfl, hp, ixN_in h0 (by rw [List.length_map]; exact h1), ?_⟩
        rw [set_ints]
        exact ⟨_, _, rfl, upd_same, by rw [List.length_set]; exact hl, fun b o e => by rw [upd_ne (ne_of_none e np)]; exact sm b o e⟩
      · exact ⟨cs, _, rfl, hp, hl, sm⟩
    · rintro σ H' ⟨cs, kv, rfl, hp, hl, sm⟩
      walk_at "rd"
      refine ⟨by decide, fun e ne => ?_⟩
      have hpe : upd H' e (.lst []) p = some (.lst (cs.map V.int)) := by rw [upd_ne (ne_of_none hp ne)]; exact hp
      have sm1 : Same H (upd H' e (.lst [])) := fun b o z => by rw [upd_ne (ne_of_none (sm b o z) ne)]; exact sm b o z
      refine ⟨_, _, .lst (SqL.of hpe) (dpInts _ cs), .lst (SqL.of upd_same) .nil, PySem.W.ke_shaped_ints cs, by decide +kernel, ?_⟩
      walk_at "rd"
      have hb : PyData.eqv (.list (cs.map PyData.int)) (.list []) = decide (cs = []) := by
        have z := PySem.W.ked_eqvAll cs []
        rw [← z]
        rfl
      rw [hb]
      refine ite2 (fun _ => ?_) (fun hne => ?_)
      · walk_at "rd"
        refine ⟨by decide, fun c nc => ?_⟩
        walk_at "rd"
        refine ⟨(by show 2 ≤ sizeLine; decide), fun a na => ?_⟩
        have sm2 : Same H (upd (upd H' e (.lst [])) c (.lst [.int 0])) := fun b o z => by rw [upd_ne (ne_of_none (sm1 b o z) nc)]; exact sm1 b o z
        have nac : a ≠ c := (ne_of_none upd_same na).symm
        refine q a c _ (fun b o z => by rw [upd_ne (ne_of_none (sm2 b o z) na)]; exact sm2 b o z) (sm2.free na) (sm1.free nc) ⟨nac, upd_same, [0], by rw [upd_ne nac.symm]; exact upd_same, by decide, by decide⟩
      · walk_at "rd"
        refine ⟨(by show 2 ≤ sizeLine; decide), fun a na => ?_⟩
        have nap : a ≠ p := (ne_of_none hpe na).symm
        refine q a p _ (fun b o z => by rw [upd_ne (ne_of_none (sm1 b o z) na)]; exact sm1 b o z) (sm1.free na) np ⟨nap, upd_same, cs, by rw [upd_ne nap.symm]; exact hpe, ?_, by omega⟩
        have : cs ≠ [] := fun z => hne (decide_eq_true z)
        exact List.length_pos_iff.mpr this
end
end HT
namespace HT
open PySem L2
def spPick : Sp := fun vs H Q _ => ∃ (a c : Addr) (t : Nat) (l : Addr) (xs : List V), vs = [.ref a, .ref l] ∧ Src H a c t ∧ t < 2 ^ 30 ∧ H l = some (.lst xs) ∧ l ≠ a ∧ l ≠ c ∧ 0 < xs.length ∧ xs.length < 2 ^ 60 ∧
  ∀ x H', x ∈ xs → Src H' a c (t + 1) → Oth a c H H' → Q x H'
theorem lg_nat {n : Nat} (h : n < 2 ^ 200) : ((n : Int)).natAbs.log2 < 9000 := by
  rw [Int.natAbs_natCast]
  by_cases e : n = 0
  · rw [e]; decide
  · have := (Nat.log2_lt e).mpr h
    omega
section
variable {P : Program} {w : World} {K : PySem.W.Frag} {mg : Str → Option Value} {base : Heap} {fD fP fG : Addr} {dD dP dG : FuncData}
theorem ok_pick {f : Addr} {fd : FuncData} (F : Fun K "_law_pick" "_law_pick" s_L_pick f fd) (B : Blt mg) (D : Cal P w K mg base "_law_draw" 1 ["_law_source_here", "_law_limit"] spDraw fD dD) :
    FnOk P w K mg base CX0 2 f fd ["_law_source_here", "_law_values"] spPick := by
  refine F.ok sc_L_pick (fun vs H Q E h => ?_) (fun cdv A outer s H vs Q E hr h => ?_)
  · obtain ⟨a, c, t, l, xs, rfl, _⟩ := h
    rfl
  · obtain ⟨a, c, t, l, xs, rfl, S, ht, hl, na, nc, h0, h1, q⟩ := h
    refine ⟨_, pss_one (ps_ret (pe_ix ix_list (pv 1) (pcl D hr (by decide) (by rfl) (pa_cons (pv 0) (pa_cons (pe_callB call_len_seq (by rfl) B.len PySem.boot_len (pa_cons (pv 1) pa_nil)) pa_nil))) (fun _ _ => rfl))), ?_⟩
    walk_at "rd"
    refine ⟨l, _, rfl, .inl (SqL.of hl), ?_⟩
    have p1 : (0 : Int) < (xs.length : Int) := by omega
    refine ⟨a, c, t, _, rfl, S, ht, p1, lg_nat (Nat.lt_of_lt_of_le h1 (Nat.pow_le_pow_right (by decide) (by decide))), fun k H' k0 k1 S' O => ?_⟩
    have hl' : k.toNat < xs.length := by omega
    have e : atI xs k = some xs[k.toNat] := by
      unfold atI
      rw [ixN_in k0 k1]
      exact List.getElem?_eq_getElem hl'
    refine ⟨l, _, _, _, rfl, rfl, SqL.of (O _ _ hl na nc), e, ?_⟩
    exact q _ _ (List.getElem_mem hl') S' O
end
end HT
namespace HT
open PySem L2
/-- the names that the text of figures does not bind, and its numbers -/
structure TxtT (mg : Str → Option Value) (tP tW : Tok) : Prop where
  isi : mg "isinstance" = none
  int : mg "int" = none
  bool : mg "bool" = none
  len : mg "len" = none
  str : mg "str" = none
  abs : mg "abs" = none
  range : mg "range" = none
  max : mg "max" = none
  gP : mg "MOST_PLACES" = some (.int 60 tP)
  gW : mg "MOST_WIDTH" = some (.int 200 tW)
def spIsInt : Sp := fun vs H Q _ => ∃ i : Int, vs = [.int i] ∧ Q (.bl true) H
def spBetween : Sp := fun vs H Q _ => ∃ i a b : Int, vs = [.int i, .int a, .int b] ∧ Q (.bl (decide (a ≤ i) && decide (i ≤ b))) H
def spCheckValue : Sp := fun vs H Q _ => ∃ i : Int, vs = [.int i] ∧ Q .non H
theorem dec_int (a b : Int) : decide (V.int a = V.int b) = decide (a = b) := by
  by_cases h : a = b
  · rw [decide_eq_true h, h, decide_eq_true rfl]
  · rw [decide_eq_false h, decide_eq_false (fun z => h (V.int.inj z))]
theorem dec_str (a b : Str) : decide (V.str a = V.str b) = decide (a = b) := by
  by_cases h : a = b
  · rw [decide_eq_true h, h, decide_eq_true rfl]
  · rw [decide_eq_false h, decide_eq_false (fun z => h (V.str.inj z))]
theorem dec_bl (a b : Bool) : decide (V.bl a = V.bl b) = decide (a = b) := by
  by_cases h : a = b
  · rw [decide_eq_true h, h, decide_eq_true rfl]
  · rw [decide_eq_false h, decide_eq_false (fun z => h (V.bl.inj z))]
theorem str_t {a b : Str} (h : decide (V.str a = V.str b) = true) : a = b := V.str.inj (of_decide_eq_true h)
theorem str_f {a b : Str} (h : ¬ decide (V.str a = V.str b) = true) : ¬ a = b := fun z => h (decide_eq_true (congrArg V.str z))
theorem int_t {a b : Int} (h : decide (V.int a = V.int b) = true) : a = b := V.int.inj (of_decide_eq_true h)
theorem int_f {a b : Int} (h : ¬ decide (V.int a = V.int b) = true) : ¬ a = b := fun z => h (decide_eq_true (congrArg V.int z))
theorem not_t {b : Bool} (h : (!b) = true) : ¬ b = true := by cases b <;> simp_all
theorem not_f {b : Bool} (h : ¬ (!b) = true) : b = true := by cases b <;> simp_all
section
variable {P : Program} {w : World} {K : PySem.W.Frag} {mg : Str → Option Value} {base : Heap} {tP tW : Tok} {fI fB fV fC fG fM : Addr} {dI dB dV dC dG dM : FuncData}
theorem ok_is_int {f : Addr} {fd : FuncData} (F : Fun K "is_int" "is_int" s_is_int f fd) (T : TxtT mg tP tW) : FnOk P w K mg base CX0 1 f fd ["thing"] spIsInt := by
  refine F.ok sc_is_int (fun vs H Q E h => ?_) (fun cdv A outer s H vs Q E hr h => ?_)
  · obtain ⟨i, rfl, _⟩ := h
    rfl
  · obtain ⟨i, rfl, q⟩ := h
    refine ⟨_, pss_one (ps_ret (pe_and (pe_callB call_isi (by rfl) T.isi (by decide +kernel) (pa_cons (pv 0) (pa_cons (pe_bltn (v := .ty "int") (by rfl) T.int (by decide +kernel) rfl) pa_nil)))
      (pe_one (pe_not (pe_callB call_isi (by rfl) T.isi (by decide +kernel) (pa_cons (pv 0) (pa_cons (pe_bltn (v := .ty "bool") (by rfl) T.bool (by decide +kernel) rfl) pa_nil))))))), ?_⟩
    walk_at "rd"
    refine ⟨_, _, _, _, _, rfl, .ty "int", .base (.int _), kit_ty (r := true) (by decide +kernel), ?_⟩
    walk_at "rd"
    refine ⟨_, _, _, _, _, rfl, .ty "bool", .base (.int _), kit_ty (r := false) (by decide +kernel), ?_⟩
    walk_at "rd"
    exact q
theorem ok_between {f : Addr} {fd : FuncData} (F : Fun K "is_int_between" "is_int_between" s_is_int_between f fd) (I : Cal P w K mg base "is_int" 1 ["thing"] spIsInt fI dI) : FnOk P w K mg base CX0 2 f fd ["thing", "least", "most"] spBetween := by
  refine F.ok sc_is_int_between (fun vs H Q E h => ?_) (fun cdv A outer s H vs Q E hr h => ?_)
  · obtain ⟨i, a, b, rfl, _⟩ := h
    rfl
  · obtain ⟨i, a, b, rfl, q⟩ := h
    refine ⟨_, pss_one (ps_ret (pe_and (pcl I hr (by decide) (by rfl) (pa_cons (pv 0) pa_nil)) (pe_one (pe_chain op_le op_le (pv 1) (pv 0) (pv 2))))), ?_⟩
    walk_at "rd"
    refine ite2 (fun h => ?_) (fun h => ?_)
    · walk_at "rd"
      rw [decide_eq_true (of_decide_eq_true h)] at q
      exact q
    · rw [decide_eq_false (of_decide_eq_false (by simpa using h))] at q
      exact q
theorem ok_check_value {f : Addr} {fd : FuncData} (F : Fun K "check_value" "check_value" s_check_value f fd) (I : Cal P w K mg base "is_int" 1 ["thing"] spIsInt fI dI) : FnOk P w K mg base CX0 2 f fd ["value"] spCheckValue := by
  refine F.ok sc_check_value (fun vs H Q E h => ?_) (fun cdv A outer s H vs Q E hr h => ?_)
  · obtain ⟨i, rfl, _⟩ := h
    rfl
  · obtain ⟨i, rfl, q⟩ := h
    refine ⟨_, pss_one (ps_if (pt_not (pt_val (pcl I hr (by decide) (by rfl) (pa_cons (pv 0) pa_nil)))) (pss_one ps_never) pss_nil), ?_⟩
    walk_at "rd"
    exact q

/-! ### text_of -/
def spStyle : Sp := fun vs H Q _ => ∃ (sg gr : Bool) (wd : Int), vs = [.bl sg, .bl gr, .int wd] ∧ 0 ≤ wd ∧ wd ≤ 200 ∧ Q .non H
def markM (fig : Int) (sg : Bool) : Str := if fig < 0 then "-" else if 0 < fig ∧ sg = true then "+" else ""
def spMark : Sp := fun vs H Q _ => ∃ (fig : Int) (sg : Bool), vs = [.int fig, .bl sg] ∧ Q (.str (markM fig sg)) H
/-- the first group's length, and the number of groups behind it -/
def firstG (n : Nat) : Nat := (n - 1) % 3 + 1
def moreG (n : Nat) : Nat := (n - firstG n) / 3
def partsG (d : Str) (k : Nat) : List Str := cutS d none (some (firstG d.length : Nat)) :: (List.range k).map fun (j : Nat) => cutS d (some ((firstG d.length : Int) + (j : Int) * 3)) (some ((firstG d.length : Int) + (j : Int) * 3 + 3))
def groupM (d : Str) : Str := Txt.join "," (partsG d (moreG d.length))
def spGrouped : Sp := fun vs H Q _ => ∃ d : Str, vs = [.str d] ∧ 1 ≤ d.length ∧ d.length ≤ 1000 ∧ ∀ H', Same H H' → Q (.str (groupM d)) H'
def textM (fig : Int) (pl : Nat) (sg gr : Bool) (wd : Int) : Str :=
  let d := Txt.zfill (toString (if fig < 0 then -fig else fig)) ((pl : Int) + 1)
  let pt := (d.length : Int) - (pl : Int)
  let t := cutS d none (some pt)
  let t := if gr = true then groupM t else t
  let t := if 0 < pl then t ++ ("." : Str) ++ cutS d (some pt) none else t
  Txt.rjust (markM fig sg ++ t) wd
theorem firstG_eq {n : Nat} (h : 1 ≤ n) : ((n : Int) - 1) % 3 + 1 = (firstG n : Int) := by
  unfold firstG
  omega
theorem size3 {a b : Int} (h : a ≤ b) : Builtin.Range.rangeSize a b 3 = (if a < b then (b - a - 1) / 3 + 1 else 0) := by
  unfold Builtin.Range.rangeSize
  rw [if_pos (show (3 : Int) > 0 by decide)]
theorem small3 {a b : Int} (h0 : 0 ≤ a) (h1 : a ≤ b) (h2 : b ≤ 1000) : Builtin.Range.small a b 3 = true := by
  unfold Builtin.Range.small
  rw [size3 h1]
  have f : ∀ x : Int, 0 ≤ x → x ≤ 5000 → Builtin.Range.rangeFitsLong x = true := fun x a b => by
    unfold Builtin.Range.rangeFitsLong
    rw [decide_eq_true (show -(2 ^ 63) ≤ x by omega), decide_eq_true (show x < 2 ^ 63 by omega)]
    rfl
  have sz : 0 ≤ (if a < b then (b - a - 1) / 3 + 1 else 0) ∧ (if a < b then (b - a - 1) / 3 + 1 else 0) ≤ 1000 := by split <;> omega
  rw [f a h0 (by omega), f b (by omega) (by omega), f 3 (by decide) (by decide), f _ sz.1 (by omega), if_pos (show (3 : Int) > 0 by decide), f (b + (3 - 1)) (by omega) (by omega), Bool.or_true]
  rfl
theorem rgG {n : Nat} (h : 1 ≤ n) (h1 : n ≤ 1000) : RgC (firstG n : Int) (n : Int) 3 (moreG n) := by
  have hf : firstG n ≤ n := by
    unfold firstG
    omega
  refine ⟨by decide, by decide, small3 (by omega) (by omega) (by omega), ?_⟩
  rw [size3 (by omega)]
  unfold moreG firstG
  split <;> omega
theorem cutS_len_le (z : Str) (lo hi : Option Int) : (cutS z lo hi).length ≤ z.length := by
  show ((z.cps.toList.drop _).take _).toArray.size ≤ z.cps.size
  simp only [List.size_toArray, List.length_take, List.length_drop, Array.length_toList]
  omega
theorem ok_style {f : Addr} {fd : FuncData} (F : Fun K "_check_style" "_check_style" s_check_style f fd) (T : TxtT mg tP tW) (B : Cal P w K mg base "is_int_between" 2 ["thing", "least", "most"] spBetween fB dB) : FnOk P w K mg base CX0 3 f fd ["sign", "group", "width"] spStyle := by
  refine F.ok sc_check_style (fun vs H Q E h => ?_) (fun cdv A outer s H vs Q E hr h => ?_)
  · obtain ⟨sg, gr, wd, rfl, _⟩ := h
    rfl
  · obtain ⟨sg, gr, wd, rfl, w0, w1, q⟩ := h
    refine ⟨_, pss_cons (ps_if (PW.pt (pw_or (pt_not (pt_val (pe_callB call_isi (by rfl) T.isi (by decide +kernel) (pa_cons (pv 0) (pa_cons (pe_bltn (v := .ty "bool") (by rfl) T.bool (by decide +kernel) rfl) pa_nil)))))
        (pw_or1 (pt_not (pt_val (pe_callB call_isi (by rfl) T.isi (by decide +kernel) (pa_cons (pv 1) (pa_cons (pe_bltn (v := .ty "bool") (by rfl) T.bool (by decide +kernel) rfl) pa_nil)))))))) (pss_one ps_never) pss_nil)
      (pss_one (ps_if (pt_not (pt_val (pcl B hr (by decide) (by rfl) (pa_cons (pv 2) (pa_cons pe_int (pa_cons (pe_glob (v := .int 200) (by rfl) T.gW ⟨_, rfl⟩) pa_nil)))))) (pss_one ps_never) pss_nil)), ?_⟩
    walk_at "rd"
    refine ⟨_, _, _, _, _, rfl, .ty "bool", .base (.bl _), kit_ty (r := true) (by decide +kernel), ?_⟩
    walk_at "rd"
    refine ⟨_, _, _, _, _, rfl, .ty "bool", .base (.bl _), kit_ty (r := true) (by decide +kernel), ?_⟩
    walk_at "rd"
    refine ⟨_, _, _, rfl, ?_⟩
    have e1 : (decide ((0 : Int) ≤ wd) && decide (wd ≤ 200)) = true := by
      rw [decide_eq_true w0, decide_eq_true w1]
      rfl
    refine ⟨_, rfl, ?_⟩
    refine ite2 (fun h => (not_t h e1).elim) (fun _ => ?_)
    exact q
theorem ok_mark {f : Addr} {fd : FuncData} (F : Fun K "_mark" "_mark" s_mark f fd) : FnOk P w K mg base CX0 1 f fd ["figure", "sign"] spMark := by
  refine F.ok sc_mark (fun vs H Q E h => ?_) (fun cdv A outer s H vs Q E hr h => ?_)
  · obtain ⟨fig, sg, rfl, _⟩ := h
    rfl
  · obtain ⟨fig, sg, rfl, q⟩ := h
    refine ⟨_, pss_cons (ps_if (pt_cmpR op_lt (pv 0) pe_int (nomark _)) (pss_one (ps_ret pe_str)) pss_nil)
      (pss_cons (ps_if (PW.pt (pw_and (pt_cmpR op_gt (pv 0) pe_int (nomark _)) (pw_and1 (pt_val (pv 1))))) (pss_one (ps_ret pe_str)) pss_nil)
      (pss_one (ps_ret pe_str))), ?_⟩
    unfold markM at q
    walk_at "rd"
    refine ite2 (fun h => ?_) (fun h1 => ?_)
    · rw [if_pos (of_decide_eq_true h)] at q
      exact q
    rw [if_neg (fun z => h1 (decide_eq_true z))] at q
    walk_at "rd"
    refine ite2 (fun h => ?_) (fun h2 => ?_)
    · walk_at "rd"
      refine ite2 (fun g => ?_) (fun g => ?_)
      · rw [if_pos ⟨of_decide_eq_true h, g⟩] at q
        exact q
      · rw [if_neg (fun z => g z.2)] at q
        exact q
    · rw [if_neg (fun z => h2 (decide_eq_true z.1))] at q
      exact q
theorem ok_grouped {f : Addr} {fd : FuncData} (F : Fun K "_grouped" "_grouped" s_grouped f fd) (T : TxtT mg tP tW) : FnOk P w K mg base CX0 1 f fd ["digits"] spGrouped := by
  refine F.ok sc_grouped (fun vs H Q E h => ?_) (fun cdv A outer s H vs Q E hr h => ?_)
  · obtain ⟨d, rfl, _⟩ := h
    rfl
  · obtain ⟨d, rfl, l0, l1, q⟩ := h
    have nd := sc_grouped.nd
    have sl : d.length ≤ sizeLine := Nat.le_trans l1 (by decide)
    refine ⟨_, pss_cons (ps_set (i := 1) nd rfl (Or.inl rfl) (pe_op op_add (pe_op op_mod (pe_op op_sub (pe_callB call_len_str (by rfl) T.len PySem.boot_len (pa_cons (pv 0) pa_nil)) pe_int) pe_int) pe_int))
      (pss_cons (ps_set (i := 2) nd rfl (Or.inl rfl) (pe_lst (pa_cons (pe_slice sl_str (pv 0) po_none (po_some (pv 1))) pa_nil)))
      (pss_cons (ps_for PassesOwn.never rfl (pi_range3 (by rfl) T.range (pa_cons (pv 1) (pa_cons (pe_callB call_len_str (by rfl) T.len PySem.boot_len (pa_cons (pv 0) pa_nil)) (pa_cons pe_int pa_nil)))) (pg_name (i := 3) nd rfl (Or.inl rfl))
        (pss_one (ps_expr (pe_bm PySem.F.plainAttrs_list PySem.F.slot_list_append PySem.F.type_list_append mt_append (pv 2) (pa_cons (pe_slice sl_str (pv 0) (po_some (pv 3)) (po_some (pe_op op_add (pv 3) pe_int))) pa_nil)))))
      (pss_one (ps_ret (pe_bm PySem.F.plainAttrs_str PySem.F.slot_str_join PySem.F.type_str_join mt_join pe_str (pa_cons (pv 2) pa_nil)))))), ?_⟩
    walk_at "rd"
    refine ⟨sl, ?_⟩
    walk_at "rd"
    refine ⟨(by show (0 : Int) < 3; decide), ?_⟩
    walk_at "rd"
    have fe := firstG_eq l0
    refine ⟨sl, ?_⟩
    refine ⟨(by show 1 ≤ sizeLine; decide), fun p np => ?_⟩
    have sm0 : Same H (upd H p (.lst [.str (cutS d none (some (((d.length : Int) - 1) % 3 + 1)))])) := fun b u z => (upd_ne (ne_of_none z np)).trans z
    have hp0 : upd H p (.lst [.str (cutS d none (some (((d.length : Int) - 1) % 3 + 1)))]) p = some (.lst ((partsG d 0).map V.str)) := by
      rw [upd_same, fe]
      unfold partsG
      rw [List.range_zero, List.map_nil, List.map_cons, List.map_nil]
    walk_at "rd"
    refine ⟨sl, ?_⟩
    walk_at "rd"
    refine ⟨_, _, _, moreG d.length, rfl, (by rw [fe]; exact rgG l0 l1), ?_⟩
    refine for_rangeC (lo := ((d.length : Int) - 1) % 3 + 1) (c := 3) (n := moreG d.length) (fun i σ H1 => ∃ kv : Option V, σ = [some (.str d), some (.int (((d.length : Int) - 1) % 3 + 1)), some (.ref p), kv] ∧ H1 p = some (.lst ((partsG d i).map V.str)) ∧ Same H H1) ⟨none, rfl, hp0, sm0⟩ ?_ ?_
    · rintro i σ H1 hi ⟨kv, rfl, hp, sm⟩
      walk_at "rd"
      refine ⟨.inl ⟨rfl, _, SqL.of hp⟩, ?_⟩
      walk_at "rd"
      refine ⟨sl, ?_⟩
      have ln : (partsG d i).length = i + 1 := by
        unfold partsG
        rw [List.length_cons, List.length_map, List.length_range]
      have mi : moreG d.length ≤ 1000 := by
        unfold moreG
        omega
      refine ⟨p, _, _, rfl, rfl, hp, (by rw [List.length_map, ln]; exact Nat.lt_of_le_of_lt (show i + 1 ≤ 1001 by omega) (by decide)), ?_⟩
      refine ⟨_, rfl, ?_, fun b u z => (upd_ne (ne_of_none z np)).trans (sm _ _ z)⟩
      rw [upd_same, fe]
      unfold partsG
      rw [List.range_succ, List.map_append, ← List.cons_append, List.map_append]
      rfl
    · rintro σ H1 ⟨kv, rfl, hp, sm⟩
      walk_at "rd"
      refine ⟨rfl, ?_⟩
      walk_at "rd"
      refine ⟨",", p, partsG d (moreG d.length), rfl, rfl, .inl (SqL.of hp), ?_, ?_⟩
      · have ln : (partsG d (moreG d.length)).length = moreG d.length + 1 := by
          unfold partsG
          rw [List.length_cons, List.length_map, List.length_range]
        have mi : moreG d.length ≤ 1000 := by
          unfold moreG
          omega
        have sum : ∀ xs : List Str, (∀ x ∈ xs, x.length ≤ 1000) → (xs.map (·.length)).sum ≤ xs.length * 1000 := by
          intro xs
          induction xs with
          | nil => intro _; exact Nat.zero_le _
          | cons y ys ih =>
            intro hx
            have a := hx y (List.mem_cons_self ..)
            have b := ih fun x h => hx x (List.mem_cons_of_mem _ h)
            rw [List.map_cons, List.sum_cons, List.length_cons, Nat.succ_mul]
            omega
        have all : ∀ x ∈ partsG d (moreG d.length), x.length ≤ 1000 := by
          intro x hx
          unfold partsG at hx
          rcases List.mem_cons.mp hx with e | hx
          · rw [e]
            exact Nat.le_trans (cutS_len_le _ _ _) l1
          · obtain ⟨j, _, e⟩ := List.mem_map.mp hx
            rw [← e]
            exact Nat.le_trans (cutS_len_le _ _ _) l1
        have := sum _ all
        rw [ln] at this ⊢
        have cm : (("," : Str)).length = 1 := by decide +kernel
        rw [cm]
        omega
      · exact q H1 sm
def spText : Sp := fun vs H Q _ => ∃ (fig : Int) (pl : Nat) (sg gr : Bool) (wd : Int), vs = [.int fig, .int (pl : Int), .bl sg, .bl gr, .int wd] ∧ -10 ^ 62 < fig ∧ fig < 10 ^ 62 ∧ pl ≤ 60 ∧ 0 ≤ wd ∧ wd ≤ 200 ∧ ∀ H', Same H H' → Q (.str (textM fig pl sg gr wd)) H'
end
end HT
namespace HT
open PySem L2
theorem log_fig {fig : Int} (h0 : -10 ^ 62 < fig) (h1 : fig < 10 ^ 62) : (if fig < 0 then -fig else fig).natAbs.log2 < 1920 := by
  have h : (if fig < 0 then -fig else fig).natAbs < 2 ^ 210 := by split <;> omega
  exact Nat.lt_of_lt_of_le (PySem.Flt.log2_lt_of (by decide) h) (by decide)
theorem padOk {i : Int} (h0 : 0 ≤ i) (h1 : i ≤ 300) : PadOk i = true := by
  obtain ⟨n, rfl⟩ := Int.eq_ofNat_of_zero_le h0
  have hn : n ≤ 300 := by omega
  clear h0 h1
  revert hn
  revert n
  decide +kernel
/-- the digits: at least one more than places, at most 300 -/
structure DigOk (d : Str) (pl : Nat) : Prop where
  lo : pl + 1 ≤ d.length
  hi : d.length ≤ 300
def digM (fig : Int) (pl : Nat) : Str := Txt.zfill (toString (if fig < 0 then -fig else fig)) ((pl : Int) + 1)
theorem cut_pre {z : Str} {i : Int} (h : 0 ≤ i ∧ i ≤ (z.length : Int)) : (cutS z none (some i)).length = i.toNat := by
  obtain ⟨n, rfl⟩ := Int.eq_ofNat_of_zero_le h.1
  have hz : z.cps.toList.length = z.length := by
    show z.cps.toList.length = z.cps.size
    exact Array.length_toList
  show ((z.cps.toList.drop (HT.sIx z.length 0 none)).take (HT.sIx z.length z.length (some (n : Int)) - HT.sIx z.length 0 none)).toArray.size = _
  rw [HT.sIx_none, HT.sIx_nat, List.drop_zero, List.size_toArray, List.length_take, hz]
  have := h.2
  omega
theorem le_line {n b : Nat} (h : n ≤ b) (hb : b ≤ 5000 := by decide) : n ≤ sizeLine := Nat.le_trans h (Nat.le_trans hb (by decide))
theorem dl : (("." : Str)).length = 1 := by decide +kernel
theorem str_app (a b : Str) : (a ++ b).length = a.length + b.length := by
  show (a.cps ++ b.cps).size = a.cps.size + b.cps.size
  exact Array.size_append
theorem cut_three (z : Str) {i : Int} (h : 0 ≤ i) : (cutS z (some i) (some (i + 3))).length ≤ 3 := by
  obtain ⟨n, rfl⟩ := Int.eq_ofNat_of_zero_le h
  show ((z.cps.toList.drop (HT.sIx z.length 0 (some (n : Int)))).take (HT.sIx z.length z.length (some ((n + 3 : Nat) : Int)) - HT.sIx z.length 0 (some (n : Int)))).toArray.size ≤ 3
  rw [HT.sIx_nat, HT.sIx_nat, List.size_toArray, List.length_take]
  omega
theorem sum_le_three {α : Type} (f : α → Nat) : ∀ (l : List α), (∀ x ∈ l, f x ≤ 3) → (l.map f).sum ≤ 3 * l.length
  | [], _ => Nat.le_refl _
  | x :: l, h => by
    have a := h x (List.mem_cons_self ..)
    have b := sum_le_three f l (fun y hy => h y (List.mem_cons_of_mem _ hy))
    rw [List.map_cons, List.sum_cons, List.length_cons]
    omega
theorem group_len {d : Str} (h : 1 ≤ d.length) (h1 : d.length ≤ 300) : (groupM d).length ≤ 1300 := by
  have hf : firstG d.length ≤ d.length := by
    unfold firstG
    omega
  have hk : firstG d.length + 3 * moreG d.length = d.length := by
    unfold moreG firstG
    omega
  have hf3 : firstG d.length ≤ 3 := by
    unfold firstG
    omega
  have e := StrLaws.join_length_le "," (partsG d (moreG d.length))
  have e1 := sum_le_three (fun x : Str => x.length) (partsG d (moreG d.length)) (fun x hx => by
    rcases List.mem_cons.mp hx with rfl | hx
    · rw [cut_pre (by omega)]
      omega
    · obtain ⟨j, hj, rfl⟩ := List.mem_map.mp hx
      have := List.mem_range.mp hj
      exact cut_three d (by omega))
  have e2 : (partsG d (moreG d.length)).length = moreG d.length + 1 := by
    unfold partsG
    rw [List.length_cons, List.length_map, List.length_range]
  have e3 : ("," : Str).length = 1 := by decide +kernel
  rw [e2] at e1 e
  rw [e3] at e
  show (PySem.Builtin.Str.glued "," (partsG d (moreG d.length))).length ≤ 1300
  rw [StrLaws.glued_eq_join]
  have e4 : (List.map (fun x : Str => x.length) (partsG d (moreG d.length))).sum ≤ 3 * (moreG d.length + 1) := e1
  have e5 := Nat.le_trans e (Nat.add_le_add_right e4 _)
  omega
section
variable {P : Program} {w : World} {K : PySem.W.Frag} {mg : Str → Option Value} {base : Heap} {tP tW : Tok} {fV fB fC fG fM : Addr} {dV dB dC dG dM : FuncData}
theorem ok_text_of {f : Addr} {fd : FuncData} (F : FunD K "text_of" "text_of" (defArgs s_text_of) (defBody s_text_of) (defScope s_text_of) [] [("sign", .bl false), ("group", .bl false), ("width", .int 0)] f fd) (T : TxtT mg tP tW)
    (V' : Cal P w K mg base "check_value" 2 ["value"] spCheckValue fV dV) (B : Cal P w K mg base "is_int_between" 2 ["thing", "least", "most"] spBetween fB dB) (C : Cal P w K mg base "_check_style" 3 ["sign", "group", "width"] spStyle fC dC)
    (G : Cal P w K mg base "_grouped" 1 ["digits"] spGrouped fG dG) (M : Cal P w K mg base "_mark" 1 ["figure", "sign"] spMark fM dM)
    (dig : ∀ fig pl, -10 ^ 62 < fig → fig < 10 ^ 62 → pl ≤ 60 → DigOk (digM fig pl) pl) :
    FnOk P w K mg base CX0 4 f fd ["figure", "places", "sign", "group", "width"] spText := by
  refine F.ok sc_text_of (fun vs H Q E h => ?_) (fun cdv A outer s H vs Q E hr h => ?_)
  · obtain ⟨fig, pl, sg, gr, wd, rfl, _⟩ := h
    rfl
  · obtain ⟨fig, pl, sg, gr, wd, rfl, f0, f1, p1, w0, w1, q⟩ := h
    have nd := sc_text_of.nd
    refine ⟨_, pss_cons (ps_expr (pcl V' hr (by decide) (by rfl) (pa_cons (pv 0) pa_nil)))
      (pss_cons (ps_if (pt_not (pt_val (pcl B hr (by decide) (by rfl) (pa_cons (pv 1) (pa_cons pe_int (pa_cons (pe_glob (v := .int 60) (by rfl) T.gP ⟨_, rfl⟩) pa_nil)))))) (pss_one ps_never) pss_nil)
      (pss_cons (ps_expr (pcl C hr (by decide) (by rfl) (pa_cons (pv 2) (pa_cons (pv 3) (pa_cons (pv 4) pa_nil)))))
      (pss_cons (ps_set (i := 5) nd rfl (Or.inl rfl) (pe_bm PySem.F.plainAttrs_str PySem.F.slot_str_zfill PySem.F.type_str_zfill mt_zfill (pe_callTy call_str_int (by rfl) T.str (by decide +kernel) (pa_cons (pe_callB call_abs (by rfl) T.abs (by decide +kernel) (pa_cons (pv 0) pa_nil)) pa_nil)) (pa_cons (pe_op op_add (pv 1) pe_int) pa_nil)))
      (pss_cons (ps_set (i := 6) nd rfl (Or.inl rfl) (pe_op op_sub (pe_callB call_len_str (by rfl) T.len PySem.boot_len (pa_cons (pv 5) pa_nil)) (pv 1)))
      (pss_cons (ps_set (i := 7) nd rfl (Or.inl rfl) (pe_slice sl_str (pv 5) po_none (po_some (pv 6))))
      (pss_cons (ps_if (pt_val (pv 3)) (pss_one (ps_set (i := 7) nd rfl (Or.inl rfl) (pcl G hr (by decide) (by rfl) (pa_cons (pv 7) pa_nil)))) pss_nil)
      (pss_cons (ps_if (pt_cmpR op_gt (pv 1) pe_int (nomark _)) (pss_one (ps_set (i := 7) nd rfl (Or.inl rfl) (pe_op op_add_str (pe_op op_add_str (pv 7) pe_str) (pe_slice sl_str (pv 5) (po_some (pv 6)) po_none)))) pss_nil)
      (pss_one (ps_ret (pe_bm PySem.F.plainAttrs_str PySem.F.slot_str_rjust PySem.F.type_str_rjust mt_rjust (pe_op op_add_str (pcl M hr (by decide) (by rfl) (pa_cons (pv 0) (pa_cons (pv 2) pa_nil))) (pv 7)) (pa_cons (pv 4) pa_nil))))))))))), ?_⟩
    have hD := dig fig pl f0 f1 p1
    obtain ⟨dlo, dhi⟩ := id hD
    have sl : (digM fig pl).length ≤ sizeLine := Nat.le_trans dhi (by decide)
    walk_at "rd"
    refine ⟨_, _, _, rfl, ?_⟩
    have e1 : (decide ((0 : Int) ≤ (pl : Int)) && decide ((pl : Int) ≤ 60)) = true := by
      rw [decide_eq_true (by omega), decide_eq_true (by omega)]
      rfl
    refine ⟨_, rfl, ?_⟩
    refine ite2 (fun h => (not_t h e1).elim) (fun _ => ?_)
    walk_at "rd"
    refine ⟨sg, gr, wd, rfl, w0, w1, ?_⟩
    walk_at "rd"
    refine ⟨log_fig f0 f1, ?_⟩
    refine ⟨rfl, ?_⟩
    walk_at "rd"
    refine ⟨padOk (by omega) (by omega), ?_⟩
    walk_at "rd"
    refine ⟨sl, ?_⟩
    walk_at "rd"
    refine ⟨sl, ?_⟩
    walk_at "rd"
    have cl : (cutS (digM fig pl) none (some (((digM fig pl).length : Int) - (pl : Int)))).length = (((digM fig pl).length : Int) - (pl : Int)).toNat := cut_pre (by omega)
    have cl2 := cutS_len_le (digM fig pl) (some (((digM fig pl).length : Int) - (pl : Int))) none
    have c1 : 1 ≤ (cutS (digM fig pl) none (some (((digM fig pl).length : Int) - (pl : Int)))).length := by rw [cl]; omega
    have c2 : (cutS (digM fig pl) none (some (((digM fig pl).length : Int) - (pl : Int)))).length ≤ 1000 := by rw [cl]; omega
    have c3 : (cutS (digM fig pl) none (some (((digM fig pl).length : Int) - (pl : Int)))).length ≤ 300 := by rw [cl]; omega
    have fin : ∀ (t : Str) (H' : Hp), t = (if gr = true then groupM (cutS (digM fig pl) none (some (((digM fig pl).length : Int) - (pl : Int)))) else cutS (digM fig pl) none (some (((digM fig pl).length : Int) - (pl : Int)))) → Same H H' →
        Q (.str (Txt.rjust (markM fig sg ++ (if 0 < pl then t ++ ("." : Str) ++ cutS (digM fig pl) (some (((digM fig pl).length : Int) - (pl : Int))) none else t)) wd)) H' := fun t H' e sm => by
      have z := q H' sm
      subst e
      exact z
    have mk : (markM fig sg).length ≤ 1 := by
      unfold markM
      split
      · decide +kernel
      · split <;> decide +kernel
    refine ite2 (fun h => ?A) (fun h => ?B)
    case' A =>
      walk_at "rd"
      refine ⟨c1, c2, fun H1 sm => ?_⟩
      obtain ⟨t, ht⟩ : ∃ t, t = groupM (cutS (digM fig pl) none (some (((digM fig pl).length : Int) - (pl : Int)))) := ⟨_, rfl⟩
      have tl : t.length ≤ 1300 := by rw [ht]; exact group_len c1 c3
      have fin' := fin t H1 (by rw [if_pos h, ht]) sm
    case' B =>
      obtain ⟨t, ht⟩ : ∃ t, t = cutS (digM fig pl) none (some (((digM fig pl).length : Int) - (pl : Int))) := ⟨_, rfl⟩
      have tl : t.length ≤ 1300 := by rw [ht]; omega
      have fin' := fin t H (by rw [if_neg h, ht]) (Same.refl H)
    all_goals
      walk_at "rd"
      refine ite2 (fun g => ?_) (fun g => ?_)
      · have g' : 0 < pl := by
          have := of_decide_eq_true g
          omega
        rw [if_pos g'] at fin'
        rw [ht] at fin' tl
        walk_at "rd"
        refine ⟨le_line (Nat.add_le_add tl (Nat.le_of_eq dl)), ?_⟩
        walk_at "rd"
        refine ⟨sl, ?_⟩
        walk_at "rd"
        refine ⟨le_line (Nat.add_le_add (Nat.le_trans (Nat.le_of_eq (str_app _ _)) (Nat.add_le_add tl (Nat.le_of_eq dl))) (Nat.le_trans cl2 dhi)), ?_⟩
        walk_at "rd"
        refine ⟨fig, sg, rfl, ?_⟩
        walk_at "rd"
        refine ⟨le_line (Nat.add_le_add mk (Nat.le_trans (Nat.le_of_eq (str_app _ _)) (Nat.add_le_add (Nat.le_trans (Nat.le_of_eq (str_app _ _)) (Nat.add_le_add tl (Nat.le_of_eq dl))) (Nat.le_trans cl2 dhi)))), ?_⟩
        refine ⟨rfl, ?_⟩
        walk_at "rd"
        exact ⟨padOk w0 (by omega), fin'⟩
      · have g' : ¬ 0 < pl := fun z => g (decide_eq_true (by omega))
        rw [if_neg g'] at fin'
        rw [ht] at fin' tl
        walk_at "rd"
        refine ⟨fig, sg, rfl, ?_⟩
        walk_at "rd"
        refine ⟨le_line (Nat.add_le_add mk tl), ?_⟩
        refine ⟨rfl, ?_⟩
        walk_at "rd"
        exact ⟨padOk w0 (by omega), fin'⟩
end
end HT
namespace HT
open PySem L2
theorem dig_ok {fig : Int} {pl : Nat} (h0 : -10 ^ 62 < fig) (h1 : fig < 10 ^ 62) (hp : pl ≤ 60) : DigOk (digM fig pl) pl := by
  have hn : 0 ≤ (if fig < 0 then -fig else fig) := by split <;> omega
  have hb : (if fig < 0 then -fig else fig) < 10 ^ 62 := by split <;> omega
  have e := PyProof.Rows.len_zfill (PySem.Str.ofString (toString (if fig < 0 then -fig else fig))) ((pl : Int) + 1)
  have b := PyProof.Rows.toString_length_le hn (k := 62) (by decide) hb
  have z : ((digM fig pl).length : Int) = _ := e
  have c : pl + 1 ≤ (digM fig pl).length ∧ (digM fig pl).length ≤ 300 := by
    by_cases g : decide (((PySem.Str.ofString (toString (if fig < 0 then -fig else fig))).length : Int) < (pl : Int) + 1) = true
    · rw [if_pos g] at z
      omega
    · rw [if_neg g] at z
      have g' : ¬ ((PySem.Str.ofString (toString (if fig < 0 then -fig else fig))).length : Int) < (pl : Int) + 1 := fun x => g (decide_eq_true x)
      omega
  exact ⟨c.1, c.2⟩
end HT
namespace HT
open PySem L2
theorem false_go {A B : Prop} (h : B) : if false = true then A else B := h
/-- the digits' own signs -/
def digS : Str := "0123456789"
/-- how many of the first signs are digits, at most m of them -/
def dgRun : Nat → List Nat → Nat
  | 0, _ => 0
  | _ + 1, [] => 0
  | m + 1, c :: r => if c ∈ digS.cps.toList then dgRun m r + 1 else 0
theorem dgRun_zero (l : List Nat) : dgRun 0 l = 0 := by cases l <;> rfl
theorem dgRun_nil (m : Nat) : dgRun m [] = 0 := by cases m <;> rfl
theorem dgRun_le : ∀ (m : Nat) (l : List Nat), dgRun m l ≤ l.length ∧ dgRun m l ≤ m
  | 0, l => by rw [dgRun_zero]; exact ⟨Nat.zero_le _, Nat.zero_le _⟩
  | m + 1, [] => by rw [dgRun_nil]; exact ⟨Nat.zero_le _, Nat.zero_le _⟩
  | m + 1, c :: r => by
    have h := dgRun_le m r
    unfold dgRun
    rw [List.length_cons]
    split <;> omega
def pastD (z : Str) (a m : Nat) : Nat := a + dgRun m (z.cps.toList.drop a)
def spPastD : Sp := fun vs H Q _ => ∃ (z : Str) (a m : Nat), vs = [.str z, .int a, .int m] ∧ a ≤ z.length ∧ z.length ≤ sizeLine ∧ Q (.int (pastD z a m)) H
section
variable {P : Program} {w : World} {K : PySem.W.Frag} {mg : Str → Option Value} {base : Heap} {tD : Tok}
theorem ok_past_digits {f : Addr} {fd : FuncData} (F : Fun K "_past_digits" "_past_digits" s_past_digits f fd) (gL : mg "len" = none) (gD : mg "DIGITS" = some (.str digS tD)) : FnOk P w K mg base CX0 1 f fd ["text", "at", "most"] spPastD := by
  refine F.ok sc_past_digits (fun vs H Q E h => ?_) (fun cdv A outer s H vs Q E hr h => ?_)
  · obtain ⟨z, a, m, rfl, _⟩ := h
    rfl
  · obtain ⟨z, a, m, rfl, az, zl, q⟩ := h
    have nd := sc_past_digits.nd
    refine ⟨_, pss_cons (ps_set (i := 3) nd rfl (Or.inl rfl) (pv 1))
      (pss_cons (ps_while PassesOwn.never (PW.pt (pw_and (pt_cmpR op_lt (pv 3) (pe_callB call_len_str (by rfl) gL PySem.boot_len (pa_cons (pv 0) pa_nil)) (nomark _))
          (pw_and (pt_cmpR op_lt (pe_op op_sub (pv 3) (pv 1)) (pv 2) (nomark _))
          (pw_and1 (pt_cmpR op_in_sign (pe_ix ix_str (pv 0) (pv 3) (fun _ _ => rfl)) (pe_glob (v := .str digS) (by rfl) gD ⟨_, rfl⟩) (by rfl))))))
        (pss_one (ps_aug (i := 3) nd rfl (Or.inl rfl) pe_int ip_add)))
      (pss_one (ps_ret (pv 3)))), ?_⟩
    walk_at "rd"
    have hl : z.cps.toList.length = z.length := Array.length_toList
    refine ⟨fun μ σ H' => ∃ e : Nat, a ≤ e ∧ e ≤ z.length ∧ e - a ≤ m ∧ pastD z a m = e + dgRun (m - (e - a)) (z.cps.toList.drop e) ∧ μ = z.length - e ∧ σ = [some (.str z), some (.int a), some (.int m), some (.int e)] ∧ H' = H, ⟨_, a, Nat.le_refl _, az, by omega, by rw [Nat.sub_self]; rfl, rfl, rfl, rfl⟩, ?_⟩
    rintro μ σ H' ⟨e, ae, ez, em, pe, rfl, rfl, rfl⟩
    have out : dgRun (m - (e - a)) (z.cps.toList.drop e) = 0 → Q (.int e) H' := fun h => by
      rw [pe, h] at q
      exact q
    walk_at "rd"
    refine ⟨zl, ?_⟩
    walk_at "rd"
    refine ite2 (fun h1 => ?_) (fun h1 => ?_)
    · have l1 : e < z.length := by
        have := of_decide_eq_true h1
        omega
      obtain ⟨c, hc⟩ : ∃ c, z.cps.toList[e]? = some c := ⟨z.cps.toList[e]'(by omega), List.getElem?_eq_getElem _⟩
      have dr : z.cps.toList.drop e = c :: z.cps.toList.drop (e + 1) := by
        have lt : e < z.cps.toList.length := by omega
        rw [List.drop_eq_getElem_cons lt]
        rw [List.getElem?_eq_getElem lt] at hc
        injection hc with hc
        rw [hc]
      walk_at "rd"
      refine ite2 (fun h2 => ?_) (fun h2 => ?_)
      · have l2 : e - a < m := by
          have := of_decide_eq_true h2
          omega
        obtain ⟨k, hk⟩ : ∃ k, m - (e - a) = k + 1 := ⟨m - (e - a) - 1, by omega⟩
        walk_at "rd"
        refine ⟨z, (e : Int), c, rfl, rfl, zl, atI_nat hc, ?_⟩
        refine ⟨c, digS, rfl, rfl, ?_⟩
        walk_at "rd"
        refine ite2 (fun h3 => ?_) (fun h3 => ?_)
        · have l3 := of_decide_eq_true h3
          refine ⟨fun σ' H1 => σ' = [some (.str z), some (.int a), some (.int m), some (.int ((e + 1 : Nat) : Int))] ∧ H1 = H', ?_, ?_⟩
          · rintro σ' H1 ⟨rfl, rfl⟩
            refine ⟨z.length - (e + 1), by omega, e + 1, by omega, by omega, by omega, ?_, rfl, rfl, rfl⟩
            rw [pe, dr, hk]
            have k1 : m - (e + 1 - a) = k := by omega
            rw [k1]
            show e + (if c ∈ digS.cps.toList then dgRun k (z.cps.toList.drop (e + 1)) + 1 else 0) = _
            rw [if_pos l3]
            omega
          · walk_at "rd"
            exact ⟨rfl, rfl⟩
        · refine ⟨_, rfl, out ?_⟩
          rw [dr, hk]
          show (if c ∈ digS.cps.toList then dgRun k (z.cps.toList.drop (e + 1)) + 1 else 0) = 0
          rw [if_neg (fun x => h3 (decide_eq_true x))]
      · have l2 : ¬ e - a < m := fun x => h2 (decide_eq_true (by omega))
        refine false_go ⟨_, rfl, out ?_⟩
        have k0 : m - (e - a) = 0 := by omega
        rw [k0, dgRun_zero]
    · have l1 : ¬ e < z.length := fun x => h1 (decide_eq_true (by omega))
      refine false_go ⟨_, rfl, out ?_⟩
      rw [List.drop_eq_nil_of_le (by omega), dgRun_nil]
end
end HT
namespace HT
open PySem L2
def at1 (z : Str) (a : Nat) : Str := cutS z (some (a : Int)) (some ((a : Int) + 1))
def placesM (z : Str) (a : Nat) : Nat := if at1 z a = "." then pastD z (a + 1) 60 else a
def spPlaces : Sp := fun vs H Q _ => ∃ (z : Str) (a : Nat), vs = [.str z, .int a] ∧ a ≤ z.length ∧ z.length ≤ sizeLine ∧ (at1 z a = "." → a + 1 ≤ z.length ∧ pastD z (a + 1) 60 ≠ a + 1) ∧ Q (.int (placesM z a)) H
/-- k groups of a comma and three digits from a on, and no comma behind them -/
structure GroupsOk (z : Str) (a k : Nat) : Prop where
  fit : a + 4 * k ≤ z.length
  each : ∀ j, j < k → at1 z (a + 4 * j) = "," ∧ pastD z (a + 4 * j + 1) 3 = a + 4 * j + 4
  stop : at1 z (a + 4 * k) ≠ ","
def spGroups : Sp := fun vs H Q _ => ∃ (z : Str) (a k : Nat), vs = [.str z, .int a] ∧ z.length ≤ sizeLine ∧ GroupsOk z a k ∧ Q (.int (a + 4 * k : Nat)) H
section
variable {P : Program} {w : World} {K : PySem.W.Frag} {mg : Str → Option Value} {base : Heap} {tM : Tok} {fD : Addr} {dD : FuncData}
theorem ok_past_places {f : Addr} {fd : FuncData} (F : Fun K "_past_places" "_past_places" s_past_places f fd) (gM : mg "MOST_PLACES" = some (.int 60 tM)) (D : Cal P w K mg base "_past_digits" 1 ["text", "at", "most"] spPastD fD dD) : FnOk P w K mg base CX0 2 f fd ["text", "at"] spPlaces := by
  refine F.ok sc_past_places (fun vs H Q E h => ?_) (fun cdv A outer s H vs Q E hr h => ?_)
  · obtain ⟨z, a, rfl, _⟩ := h
    rfl
  · obtain ⟨z, a, rfl, az, zl, ok, q⟩ := h
    have nd := sc_past_places.nd
    refine ⟨_, pss_cons (ps_if (pt_cmpR op_ne (pe_slice sl_str (pv 0) (po_some (pv 1)) (po_some (pe_op op_add (pv 1) pe_int))) pe_str (nomark _)) (pss_one (ps_ret (pv 1))) pss_nil)
      (pss_cons (ps_set (i := 2) nd rfl (Or.inl rfl) (pcl D hr (by decide) (by rfl) (pa_cons (pv 0) (pa_cons (pe_op op_add (pv 1) pe_int) (pa_cons (pe_glob (v := .int 60) (by rfl) gM ⟨_, rfl⟩) pa_nil)))))
      (pss_cons (ps_if (pt_cmpR op_eq (pv 2) (pe_op op_add (pv 1) pe_int) (nomark _)) (pss_one ps_never) pss_nil)
      (pss_one (ps_ret (pv 2))))), ?_⟩
    unfold placesM at q
    walk_at "rd"
    refine ⟨zl, ?_⟩
    walk_at "rd"
    refine ⟨rfl, ?_⟩
    walk_at "rd"
    refine ite2 (fun h => ?_) (fun h => ?_)
    · have h' : ¬ at1 z a = "." := by
        intro e
        refine not_t h ?_
        exact decide_eq_true (congrArg V.str e)
      rw [if_neg h'] at q
      exact ⟨_, rfl, q⟩
    · have h' : at1 z a = "." := str_t (not_f h)
      rw [if_pos h'] at q
      obtain ⟨o1, o2⟩ := ok h'
      walk_at "rd"
      refine ⟨z, a + 1, 60, rfl, o1, zl, ?_⟩
      walk_at "rd"
      refine ⟨rfl, ?_⟩
      walk_at "rd"
      refine ite2 (fun h => (o2 ?_).elim) (fun _ => ?_)
      · have := int_t h
        omega
      · exact ⟨_, rfl, q⟩
theorem ok_past_groups {f : Addr} {fd : FuncData} (F : Fun K "_past_groups" "_past_groups" s_past_groups f fd) (D : Cal P w K mg base "_past_digits" 1 ["text", "at", "most"] spPastD fD dD) : FnOk P w K mg base CX0 2 f fd ["text", "at"] spGroups := by
  refine F.ok sc_past_groups (fun vs H Q E h => ?_) (fun cdv A outer s H vs Q E hr h => ?_)
  · obtain ⟨z, a, k, rfl, _⟩ := h
    rfl
  · obtain ⟨z, a, k, rfl, zl, ok, q⟩ := h
    have nd := sc_past_groups.nd
    refine ⟨_, pss_cons (ps_while PassesOwn.never (pt_cmpR op_eq (pe_slice sl_str (pv 0) (po_some (pv 1)) (po_some (pe_op op_add (pv 1) pe_int))) pe_str (nomark _))
        (pss_cons (ps_set (i := 2) nd rfl (Or.inl rfl) (pcl D hr (by decide) (by rfl) (pa_cons (pv 0) (pa_cons (pe_op op_add (pv 1) pe_int) (pa_cons pe_int pa_nil)))))
        (pss_cons (ps_if (pt_cmpR op_lt (pv 2) (pe_op op_add (pv 1) pe_int) (nomark _)) (pss_one ps_never) pss_nil)
        (pss_one (ps_set (i := 1) nd rfl (Or.inl rfl) (pv 2))))))
      (pss_one (ps_ret (pv 1))), ?_⟩
    refine ⟨fun μ σ H' => ∃ (j : Nat) (x : Option V), j ≤ k ∧ μ = k - j ∧ σ = [some (.str z), some (.int (a + 4 * j : Nat)), x] ∧ H' = H, ⟨_, 0, none, Nat.zero_le _, rfl, rfl, rfl⟩, ?_⟩
    rintro μ σ H' ⟨j, x, jk, rfl, rfl, rfl⟩
    walk_at "rd"
    refine ⟨zl, ?_⟩
    walk_at "rd"
    refine ⟨rfl, ?_⟩
    walk_at "rd"
    refine ite2 (fun h => ?_) (fun h => ?_)
    · have h' : at1 z (a + 4 * j) = "," := str_t h
      have lt : j < k := by
        by_cases g : j = k
        · rw [g] at h'
          exact (ok.stop h').elim
        · omega
      have e := (ok.each j lt).2
      have f := ok.fit
      refine ⟨fun σ' H1 => σ' = [some (.str z), some (.int (a + 4 * (j + 1) : Nat)), some (.int (a + 4 * (j + 1) : Nat))] ∧ H1 = H', ?_, ?_⟩
      · rintro σ' H1 ⟨rfl, rfl⟩
        exact ⟨k - (j + 1), by omega, j + 1, _, by omega, rfl, rfl, rfl⟩
      walk_at "rd"
      refine ⟨z, a + 4 * j + 1, 3, rfl, by omega, zl, ?_⟩
      rw [e]
      walk_at "rd"
      refine ite2 (fun h => ?_) (fun _ => ?_)
      · have := of_decide_eq_true h
        omega
      · walk_at "rd"
        exact ⟨rfl, rfl⟩
    · have h' : ¬ at1 z (a + 4 * j) = "," := str_f h
      have e : j = k := by
        by_cases g : j = k
        · exact g
        · exact (h' (ok.each j (by omega)).1).elim
      subst e
      exact ⟨_, rfl, q⟩
end
end HT
namespace HT
open PySem L2
/-- k: the number of groups, where there are groups -/
def wholeM (z : Str) (a k : Nat) (c : Nat) : Nat := if (⟨#[c]⟩ : Str) = "0" then a + 1 else if 3 < pastD z a z.length - a then pastD z a z.length else pastD z a z.length + 4 * k
def spWhole : Sp := fun vs H Q _ => ∃ (z : Str) (a k c : Nat), vs = [.str z, .int a] ∧ z.length ≤ sizeLine ∧ z.cps.toList[a]? = some c ∧ pastD z a z.length ≠ a ∧
  (¬ (⟨#[c]⟩ : Str) = "0" → ¬ 3 < pastD z a z.length - a → GroupsOk z (pastD z a z.length) k) ∧ Q (.int (wholeM z a k c)) H
section
variable {P : Program} {w : World} {K : PySem.W.Frag} {mg : Str → Option Value} {base : Heap} {fD fG : Addr} {dD dG : FuncData}
theorem ok_past_whole {f : Addr} {fd : FuncData} (F : Fun K "_past_whole" "_past_whole" s_past_whole f fd) (gL : mg "len" = none) (D : Cal P w K mg base "_past_digits" 1 ["text", "at", "most"] spPastD fD dD) (G : Cal P w K mg base "_past_groups" 2 ["text", "at"] spGroups fG dG) : FnOk P w K mg base CX0 3 f fd ["text", "at"] spWhole := by
  refine F.ok sc_past_whole (fun vs H Q E h => ?_) (fun cdv A outer s H vs Q E hr h => ?_)
  · obtain ⟨z, a, k, c, rfl, _⟩ := h
    rfl
  · obtain ⟨z, a, k, c, rfl, zl, hc, pn, ok, q⟩ := h
    have nd := sc_past_whole.nd
    refine ⟨_, pss_cons (ps_set (i := 2) nd rfl (Or.inl rfl) (pcl D hr (by decide) (by rfl) (pa_cons (pv 0) (pa_cons (pv 1) (pa_cons (pe_callB call_len_str (by rfl) gL PySem.boot_len (pa_cons (pv 0) pa_nil)) pa_nil)))))
      (pss_cons (ps_if (pt_cmpR op_eq (pv 2) (pv 1) (nomark _)) (pss_one ps_never) pss_nil)
      (pss_cons (ps_if (pt_cmpR op_eq (pe_ix ix_str (pv 0) (pv 1) (fun _ _ => rfl)) pe_str (nomark _)) (pss_one (ps_ret (pe_op op_add (pv 1) pe_int))) pss_nil)
      (pss_cons (ps_if (pt_cmpR op_gt (pe_op op_sub (pv 2) (pv 1)) pe_int (nomark _)) (pss_one (ps_ret (pv 2))) pss_nil)
      (pss_one (ps_ret (pcl G hr (by decide) (by rfl) (pa_cons (pv 0) (pa_cons (pv 2) pa_nil)))))))), ?_⟩
    have az : a < z.length := by
      have h := (List.getElem?_eq_some_iff.mp hc).1
      rw [Array.length_toList] at h
      exact h
    have pa : a ≤ pastD z a z.length := Nat.le_add_right _ _
    unfold wholeM at q
    walk_at "rd"
    refine ⟨zl, ?_⟩
    refine ⟨z, a, z.length, rfl, Nat.le_of_lt az, zl, ?_⟩
    generalize pastD z a z.length = e at pn ok q pa
    walk_at "rd"
    refine ⟨rfl, ?_⟩
    walk_at "rd"
    refine ite2 (fun h => (pn ?_).elim) (fun _ => ?_)
    · have := int_t h
      omega
    walk_at "rd"
    refine ⟨z, (a : Int), c, rfl, rfl, zl, atI_nat hc, ?_⟩
    walk_at "rd"
    refine ⟨rfl, ?_⟩
    walk_at "rd"
    refine ite2 (fun h => ?_) (fun h => ?_)
    · rw [if_pos (str_t h)] at q
      walk_at "rd"
      exact q
    rw [if_neg (str_f h)] at q
    walk_at "rd"
    refine ite2 (fun h2 => ?_) (fun h2 => ?_)
    · have g : 3 < e - a := by
        have := of_decide_eq_true h2
        omega
      rw [if_pos g] at q
      exact ⟨_, rfl, q⟩
    · have g : ¬ 3 < e - a := fun x => h2 (decide_eq_true (by omega))
      rw [if_neg g] at q
      walk_at "rd"
      exact ⟨z, e, k, rfl, zl, ok (str_f h) g, q⟩
end
end HT
namespace HT
open PySem PySem.Spec PyProof.Rows L2 CwR
section
variable {X : Cx} {a b : Expr} {ta tb : TE} {rest : List Stmt} {u : TS} {pos' p2 pos : Pos}
/-- x = a - b; ..: behind it a token is out -/
theorem pss_subT {i : Nat} {x : Str} (hN : X.N.Nodup) (hi : X.N[i]? = some x) (hx : Loc X.env.scope x) (ha : PE X a ta) (hb : PE X b tb) (h2 : PSsT X rest u)
    (hs : swapsWith (.BinOp a .Sub b p2) (some (.Name x pos')) pos.line X.env = pure false := by rfl) (hf : X.fn x = true ∨ X.env.scope.names.lookup x = some .local := by first | exact .inl rfl | exact .inr rfl | assumption) :
    PSs X (.Assign [.Name x pos'] (.BinOp a .Sub b p2) pos :: rest) (tSeq (tAsg (tOp (rI0 fun i j => .int (i - j)) ta tb) (gName i)) u) := by
  refine ⟨fun pins s σ H D I h => ?_⟩
  refine wpAny_execs_cons (wpAny_Assign_Name (wpAny_BinOp (thn (ha.run pins s σ H _ I h) fun v s1 ⟨y, H1, I1, r1, q1⟩ => thn (hb.run pins s1 σ H1 _ I1 q1) fun w s2 ⟨z, H2, I2, r2, q2⟩ => ?_)) hs)
  obtain ⟨m, n, e1, e2, q⟩ := q2
  subst e1
  subst e2
  obtain ⟨t1, rfl⟩ := r1
  obtain ⟨t2, rfl⟩ := r2
  refine PyProof.Rows.sub_int ?_
  have st := store_ok (M := model X.prog X.w) (A := X.A) (E := X.xe) (u := .int (m - n) s2.toks) (v := .int (m - n)) (Q := fun _ s' => Inv X pins (σ.set i (some (.int (m - n)))) H2 s') (I2.tok (s2.toks + 1)) hN hi hx ⟨_, rfl⟩ (fun s' I' => I') hf
  refine wpAny_mono (PySem.wpAny_toks st) (fun _ s3 z => ?_) fun _ _ z => z.2
  obtain ⟨hk, I3⟩ := z
  exact h2 pins s3 _ H2 D (Nat.le_trans (Nat.le_add_left 1 s2.toks) hk) I3 q
end
end HT
namespace HT
open PySem PySem.Spec PyProof.Rows L2 CwR
section
variable {X : Cx} {e : Expr} {es : List Expr} {te : TE} {t : TA} {pos' p pos : Pos} {T x : Str} {r : List V → Hp → VK → Prop}
theorem pst_set {i : Nat} {y : Str} (hN : X.N.Nodup) (hi : X.N[i]? = some y) (hx : Loc X.env.scope y) (he : PET X e te) (hs : swapsWith e (some (.Name y pos')) pos.line X.env = pure false := by rfl) (hf : X.fn y = true ∨ X.env.scope.names.lookup y = some .local := by first | exact .inl rfl | exact .inr rfl | assumption) :
    PST X (.Assign [.Name y pos'] e pos) (tAsg te (gName i)) := by
  intro pins s σ H D h0 I h
  refine wpAny_Assign_Name (thn (he pins s σ H _ h0 I h) fun v s1 ⟨z, H1, I1, r1, q1⟩ => ?_) hs
  exact store_ok I1 hN hi hx r1 (fun s2 I2 => ⟨_, H1, I2, q1⟩) hf
theorem pet_int (hc : CallR X (.type "int") r) (hg : Gl X "int") (hm : X.mg "int" = none) (ha : PAT X (e :: es) t)
    (he : starEach (e :: es) X.env = (false, eval e X.env) :: starEach es X.env := by rfl) (hpl : (backTo pos (starEach es X.env)).any (·.1) = false := by rfl) : PET X (.Call (.Name "int" p) (e :: es) [] pos) (tCB r t) := by
  intro pins s σ H Q h0 I h
  refine wpAny_Call_Name_kw (ld_blt I hg hm (show bootBuiltins "int" = some (.type "int") by decide +kernel) ?_ (by decide) (by decide))
  exact PyProof.Rows.callWith_type1 (thn (ha pos pins s σ H _ h0 I h) fun us s1 ⟨vs, H1, I1, r1, q1⟩ => hc pins s1 σ H1 vs us Q I1 r1 q1) he hpl
end
end HT
namespace HT
open PySem L2 CwR
def markQ (z : Str) (a : Nat) : Bool := decide (at1 z a = "-") || decide (at1 z a = "+")
/-- the leading blanks -/
def blanks (z : Str) : Nat := z.length - (Txt.lstripChars z " ").length
def wholeAt (z : Str) : Nat := if markQ z (blanks z) = true then blanks z + 1 else blanks z
structure ReadOk (z : Str) (k c : Nat) (n : Int) (p e : Nat) (c0 : Nat) : Prop where
  len : z.length ≤ 2000
  bl : blanks z < z.length
  hc0 : z.cps.toList[blanks z]? = some c0
  hc : z.cps.toList[wholeAt z]? = some c
  pn : pastD z (wholeAt z) z.length ≠ wholeAt z
  groups : ¬ (⟨#[c]⟩ : Str) = "0" → ¬ 3 < pastD z (wholeAt z) z.length - wholeAt z → GroupsOk z (pastD z (wholeAt z) z.length) k
  hp : p = wholeM z (wholeAt z) k c
  pl : p ≤ z.length
  dot : at1 z p = "." → p + 1 ≤ z.length ∧ pastD z (p + 1) 60 ≠ p + 1
  he : e = placesM z p
  all : e = z.length
  r1 : (Txt.replace (cutS z (some (wholeAt z : Int)) (some (e : Int))) "," "").length ≤ 2000
  r2 : (Txt.replace (Txt.replace (cutS z (some (wholeAt z : Int)) (some (e : Int))) "," "") "." "").length ≤ 2000
  dig : PySem.intText? (Txt.replace (Txt.replace (cutS z (some (wholeAt z : Int)) (some (e : Int))) "," "") "." "") = some n
def readFig (n : Int) (c0 : Nat) : Int := if (⟨#[c0]⟩ : Str) = "-" then -n else n
def spRead : Sp := fun vs H Q _ => ∃ (z : Str) (k c : Nat) (n : Int) (p e c0 : Nat), vs = [.str z] ∧ ReadOk z k c n p e c0 ∧ ∀ (q : Addr) (H' : Hp), Same H H' → H' q = some (.tup [.int (readFig n c0), .int (max 0 ((e : Int) - p - 1))]) → Q (.ref q) H'
section
variable {P : Program} {w : World} {K : PySem.W.Frag} {mg : Str → Option Value} {base : Heap} {fW fL : Addr} {dW dL : FuncData}
structure ReadT (mg : Str → Option Value) : Prop where
  isi : mg "isinstance" = none
  str : mg "str" = none
  len : mg "len" = none
  int : mg "int" = none
  max : mg "max" = none
theorem ok_read_text {f : Addr} {fd : FuncData} (F : Fun K "read_text" "read_text" s_read_text f fd) (T : ReadT mg) (W : Cal P w K mg base "_past_whole" 3 ["text", "at"] spWhole fW dW) (L : Cal P w K mg base "_past_places" 2 ["text", "at"] spPlaces fL dL)
    (long : ∀ X : Cx, X.K = K → CallR X (.type "int") (fun xs H Q => ∃ a n, xs = [.str a] ∧ PySem.intText? a = some n ∧ a.length ≤ 2000 ∧ Q (.int n) H)) : FnOk P w K mg base CX0 4 f fd ["text"] spRead := by
  refine F.ok sc_read_text (fun vs H Q E h => ?_) (fun cdv A outer s H vs Q E hr h => ?_)
  · obtain ⟨z, k, c, n, p, e, c0, rfl, _⟩ := h
    rfl
  · obtain ⟨z, k, c, n, p, e, c0, rfl, ok, q⟩ := h
    have nd := sc_read_text.nd
    refine ⟨_, pss_cons (ps_if (pt_not (pt_val (pe_callB call_isi (by rfl) T.isi (by decide +kernel) (pa_cons (pv 0) (pa_cons (pe_bltn (v := .ty "str") (by rfl) T.str (by decide +kernel) rfl) pa_nil))))) (pss_one ps_never) pss_nil)
      (pss_subT (i := 1) nd rfl (Or.inl rfl) (pe_callB call_len_str (by rfl) T.len PySem.boot_len (pa_cons (pv 0) pa_nil)) (pe_callB call_len_str (by rfl) T.len PySem.boot_len (pa_cons (pe_bm PySem.F.plainAttrs_str PySem.F.slot_str_lstrip PySem.F.type_str_lstrip mt_lstripChars (pv 0) (pa_cons pe_str pa_nil)) pa_nil))
      (psst_cons (PST.of (ps_set (i := 2) nd rfl (Or.inl rfl) (pv 1)))
      (psst_cons (PST.of (ps_if (pt_cmpR op_in_seq (pe_slice sl_str (pv 0) (po_some (pv 1)) (po_some (pe_op op_add (pv 1) pe_int))) (pe_tup (pa_cons pe_str (pa_cons pe_str pa_nil))) (by rfl)) (pss_one (ps_set (i := 2) nd rfl (Or.inl rfl) (pe_op op_add (pv 1) pe_int))) pss_nil))
      (psst_cons (PST.of (ps_set (i := 3) nd rfl (Or.inl rfl) (pcl W hr (by decide) (by rfl) (pa_cons (pv 0) (pa_cons (pv 2) pa_nil)))))
      (psst_cons (PST.of (ps_set (i := 4) nd rfl (Or.inl rfl) (pcl L hr (by decide) (by rfl) (pa_cons (pv 0) (pa_cons (pv 3) pa_nil)))))
      (psst_cons (PST.of (ps_if (pt_cmpR op_lt (pv 4) (pe_callB call_len_str (by rfl) T.len PySem.boot_len (pa_cons (pv 0) pa_nil)) (nomark _)) (pss_one ps_never) pss_nil))
      (psst_cons (pst_set (i := 5) nd rfl (Or.inl rfl) (pet_int (long _ rfl) (by rfl) T.int (pat_cons (pet_replT (pet_replC (pe_slice sl_str (pv 0) (po_some (pv 2)) (po_some (pv 4))))) pat_nil)))
      (psst_cons (PST.of (ps_if (pt_cmpR op_eq (pe_ix ix_str (pv 0) (pv 1) (fun _ _ => rfl)) pe_str (nomark _)) (pss_one (ps_set (i := 5) nd rfl (Or.inl rfl) (pe_un un_neg (pv 5)))) pss_nil))
      (psst_one (PST.of (ps_ret (pe_tup (pa_cons (pv 5) (pa_cons (pe_callB (call_max2 rfl) (by rfl) T.max (by decide +kernel) (pa_cons pe_int (pa_cons (pe_op op_sub (pe_op op_sub (pv 4) (pv 3)) pe_int) pa_nil))) pa_nil)))))))))))))), ?_⟩
    have zl : z.length ≤ sizeLine := Nat.le_trans ok.len (by decide)
    walk_at "rd"
    refine ⟨_, _, _, _, _, rfl, .ty "str", .base (.str _), kit_ty (r := true) (by decide +kernel), ?_⟩
    walk_at "rd"
    refine ⟨zl, ?_⟩
    walk_at "rd"
    have ll : (Txt.lstripChars z " ").length ≤ z.length := PyProof.Rows.len_lstripChars z " "
    have eb : (z.length : Int) - ((Txt.lstripChars z " ").length : Int) = (blanks z : Int) := by
      unfold blanks
      omega
    refine ⟨rfl, ?_⟩
    walk_at "rd"
    refine ⟨zl, ?_⟩
    walk_at "rd"
    refine ⟨Nat.le_trans ll zl, ?_⟩
    walk_at "rd"
    dsimp only
    rw [eb]
    refine ⟨zl, ?_⟩
    walk_at "rd"
    refine ⟨by show 2 ≤ sizeLine; decide, fun tq tn => ?_⟩
    have tf : (upd H tq (.tup [.str "-", .str "+"])) tq = some (.tup [.str "-", .str "+"]) := upd_same ..
    refine ⟨tq, _, rfl, .inr (SqT.of tf), rfl, rfl, ?_⟩
    walk_at "rd"
    obtain ⟨zlen, bl, hc0, hc, pn, gr, hp, ppl, dot, he, all, r1, r2, dig⟩ := ok
    have mq : markQ z (blanks z) = inV (V.str (at1 z (blanks z))) [V.str "-", V.str "+"] := by
      have f : ∀ t r : Str, eqV (V.str r) (V.str t) = decide (t = r) := fun t r => by
        show (r == t) = decide (t = r)
        by_cases g : t = r
        · rw [g, decide_eq_true rfl, beq_self_eq_true]
        · rw [decide_eq_false g]
          exact beq_eq_false_iff_ne.mpr (fun x => g x.symm)
      unfold markQ inV
      rw [List.any_cons, List.any_cons, List.any_nil, f, f, Bool.or_false]
    generalize hwz : wholeAt z = wh at hc pn gr hp r1 r2 dig
    have sm : Same H (upd H tq (.tup [.str "-", .str "+"])) := fun b o hb => by
      rw [upd_ne (fun x => by rw [x, tn] at hb; cases hb)]
      exact hb
    refine ite2 (fun h => ?A) (fun h => ?B)
    case' A =>
      have hw : blanks z + 1 = wh := by
        rw [← hwz]
        unfold wholeAt
        rw [if_pos (mq.trans h)]
      subst hw
    case' B =>
      have hw : blanks z = wh := by
        rw [← hwz]
        unfold wholeAt
        rw [if_neg (fun x => h (mq.symm.trans x))]
      have hc0' := hc0
      subst hw
    all_goals
      walk_at "rd"
      refine ⟨z, _, k, c, rfl, zl, hc, pn, gr, ?_⟩
      rw [← hp]
      walk_at "rd"
      refine ⟨z, p, rfl, ppl, zl, dot, ?_⟩
      rw [← he]
      walk_at "rd"
      refine ⟨zl, ?_⟩
      walk_at "rd"
      refine ite2 (fun h => ?_) (fun _ => ?_)
      · have := of_decide_eq_true h
        omega
      walk_at "rd"
      refine ⟨zl, ?_⟩
      walk_at "rd"
      refine ⟨by rw [show (("" : Str)).length = 0 from rfl]; exact Nat.le_trans (cutS_len_le z _ _) (Nat.le_trans zlen (by decide)), ?_⟩
      refine ⟨_, rfl, by rw [show (("" : Str)).length = 0 from rfl]; exact Nat.le_trans r1 (by decide), ?_⟩
      walk_at "rd"
      refine ⟨_, n, rfl, dig, r2, ?_⟩
      walk_at "rd"
      refine ⟨z, (blanks z : Int), c0, rfl, rfl, zl, atI_nat hc0, ?_⟩
      walk_at "rd"
      refine ⟨rfl, ?_⟩
      walk_at "rd"
      have fin : ∀ (q' : Addr), (upd H tq (.tup [.str "-", .str "+"])) q' = none → ∀ r : Int, r = readFig n c0 → Q (.ref q') (upd (upd H tq (.tup [.str "-", .str "+"])) q' (.tup [.int r, .int (if (e : Int) - p - 1 > 0 then (e : Int) - p - 1 else 0)])) := fun q' qn r hr => by
        refine q q' _ (sm.trans fun b o hb => by rw [upd_ne (fun x => by rw [x, qn] at hb; cases hb)]; exact hb) ?_
        rw [upd_same, hr]
        have e1 : (if (e : Int) - p - 1 > 0 then (e : Int) - p - 1 else 0) = max 0 ((e : Int) - p - 1) := by split <;> omega
        rw [e1]
      refine ite2 (fun h => ?_) (fun h => ?_)
      · walk_at "rd"
        refine ⟨0, _, rfl, ?_⟩
        walk_at "rd"
        refine ⟨by show 2 ≤ sizeLine; decide, fun q' qn => ?_⟩
        exact fin q' qn _ (by unfold readFig; rw [if_pos (str_t h)])
      · walk_at "rd"
        refine ⟨0, _, rfl, ?_⟩
        walk_at "rd"
        refine ⟨by show 2 ≤ sizeLine; decide, fun q' qn => ?_⟩
        exact fin q' qn _ (by unfold readFig; rw [if_neg (str_f h)])
end
end HT
namespace HT
open PySem L2 CwR PySem.NumText PySem.W PySem.Calls PyProof.Rows
theorem wp_lim {M : Model} {A : Around} {E : Value → Shared → Prop} {s : Shared} {Q : Nat → Shared → Prop} (hn : Looks M s.heap (nsGet cStatics ("sys.int_max_str_digits" : PySem.Str)) none) (h : Q 4300 s) : wpAny M A Builtin.intMaxStrDigits Q E s := by
  unfold Builtin.intMaxStrDigits
  exact wpAny_bind (hn.here (wpAny_pure h))
theorem wp_num {M : Model} {A : Around} {E : Value → Shared → Prop} {s : Shared} {Q : Value → Shared → Prop} {v : Value} {t : List Nat} {n : Int} {l : Nat} (hn : Looks M s.heap (nsGet cStatics ("sys.int_max_str_digits" : PySem.Str)) none)
    (hl : (t.takeWhile (· != 0)).length ≤ 640 ∧ l = 0 ∨ ¬ (t.takeWhile (· != 0)).length ≤ 640 ∧ l = 4300)
    (hr : (int_private% "readNumeral") l 10 (t.takeWhile (· != 0)) = (int_private% "Numeral.value") n) (ha : ((t.takeWhile (· != 0)).length == t.length) = true) (h : Q (.int n s.toks) { s with toks := s.toks + 1 }) : wpAny M A ((int_private% "intFromText") v t 10) Q E s := by
  obtain ⟨hp, g, d, tk, os⟩ := s
  rcases hl with ⟨hs, rfl⟩ | ⟨hs, rfl⟩
  · repeat (any_goals (first | assumption | (with_reducible refine wpAny_ite_true (decide_eq_true hs) ?_) | (with_reducible refine wpAny_ite_true (decide_eq_true ha) ?_) | wp_step))
    all_goals (try rw [hr])
    all_goals (try dsimp only)
    repeat (any_goals (first | assumption | (with_reducible refine wpAny_ite_true (decide_eq_true ha) ?_) | wp_step))
  · repeat (any_goals (first | assumption | (with_reducible refine wpAny_ite_false (decide_eq_false hs) ?_) | (with_reducible refine wp_lim hn ?_) | (with_reducible refine wpAny_ite_true (decide_eq_true ha) ?_) | wp_step))
    all_goals (try rw [hr])
    all_goals (try dsimp only)
    repeat (any_goals (first | assumption | (with_reducible refine wpAny_ite_true (decide_eq_true ha) ?_) | wp_step))
set_option maxHeartbeats 4000000 in
theorem meets_num {x : PySem.Str} {u : Tok} {n : Int} (hn : PySem.intText? x = some n) (hx : x.length ≤ 2000) :
    Meets (Builtin.«int.__new__» ⟨[.type "int", .str x u], []⟩) (fun _ R s => (∀ M : Model, Looks M s.heap (nsGet cStatics ("sys.int_max_str_digits" : PySem.Str)) none) ∧ R (.ok (.ret (.int n s.toks))) { s with toks := s.toks + 1 }) :=
  .of_wp fun prog w A R s h => by
    have hq := h.2
    have hlk : Looks (model prog w) s.heap (nsGet cStatics ("sys.int_max_str_digits" : PySem.Str)) none := h.1 _
    obtain ⟨l, hl⟩ : ∃ l : Nat, (numSeenOf x).length ≤ 640 ∧ l = 0 ∨ ¬ (numSeenOf x).length ≤ 640 ∧ l = 4300 := by
      by_cases z : (numSeenOf x).length ≤ 640
      · exact ⟨0, .inl ⟨z, rfl⟩⟩
      · exact ⟨4300, .inr ⟨z, rfl⟩⟩
    have hk : (int_private% "readNumeral") l 10 (numSeenOf x) = (int_private% "Numeral.value") n ∧ ((numSeenOf x).length == (numTextOf x).length) = true := by
      rw [readNumeral_ten]
      have hb := seen_length x
      unfold PySem.intText? at hn
      split at hn
      · rename_i hall
        refine ⟨?_, hall⟩
        split at hn
        · rename_i ds hd
          have d1 := digits_size hd
          have d2 := core_length (numSeenOf x)
          rw [if_pos (by omega)] at hn
          injection hn with hn
          rw [hd, ← hn]
          exact judge_ok (by rcases hl with z | z <;> omega) (by omega)
        · cases hn
      · cases hn
    have hk' := KIN.Hid.mk (And.intro hl hk)
    clear hn hl h hk
    obtain ⟨hp, g, d, tk, os⟩ := s
    have hlk' := KIN.Hid.mk hlk
    clear hlk
    have f1 := F.conv_sub_int
    have f2 := F.madeHere_int
    have f3 := KIN.str_int
    have f4 := KIN.str_idx
    have f5 := KIN.str_trunc
    have f6 : typeOf (.str x u) = pure (.type "str") := rfl
    repeat (any_goals (first | assumption | ((with_reducible show wpAny _ _ ((int_private% "intFromText") _ _ _) _ _ _); refine wp_num hlk'.out hk'.out.1 hk'.out.2.1 hk'.out.2.2 ?_) | wp_step))
    all_goals first | exact ⟨_, rfl, hq⟩ | skip
theorem call_int_long {X : Cx} (e : PySem.W.nsIn X.K cStatics "sys.int_max_str_digits" = some none) : CallR X (.type "int") (fun xs H Q => ∃ a n, xs = [.str a] ∧ PySem.intText? a = some n ∧ a.length ≤ 2000 ∧ Q (.int n) H) := by
  intro pins s σ H xs us Q I rs h
  obtain ⟨a, n, rfl, hn, hl, h⟩ := h
  cases rs with
  | cons r1 rs =>
    cases rs
    obtain ⟨t, rfl⟩ := r1
    refine PySem.call_int_1 (meets_num hn hl) ?_
    exact ⟨fun M => (PySem.W.looks_nsIn I.kIn e), PySem.typeIs_int _ _ _, ⟨.int n, H, I.tok _, ⟨_, rfl⟩, h⟩⟩
end HT
namespace HT
open PySem L2 PySem.NumText TL
theorem tl_digS : tl digS = [48, 49, 50, 51, 52, 53, 54, 55, 56, 57] := by
  show tl (Str.ofString "0123456789") = _
  rw [tl_ofString]
  rfl
theorem mem_digS {c : Nat} : c ∈ digS.cps.toList ↔ 48 ≤ c ∧ c ≤ 57 := by
  rw [show digS.cps.toList = [48, 49, 50, 51, 52, 53, 54, 55, 56, 57] from tl_digS]
  simp only [List.mem_cons, List.not_mem_nil, or_false]
  omega
/-- no digit ahead -/
def NoDg (l : List Nat) : Prop := ∀ c, l.head? = some c → ¬ (48 ≤ c ∧ c ≤ 57)
theorem dgRun_all : ∀ (a b : List Nat) (m : Nat), AllDigits a → a.length ≤ m → (NoDg b ∨ m = a.length) → dgRun m (a ++ b) = a.length
  | [], b, 0, _, _, _ => dgRun_zero _
  | [], [], m + 1, _, _, _ => rfl
  | [], c :: b, m + 1, _, _, h => by
    have h1 : ¬ c ∈ digS.cps.toList := fun z => by
      rcases h with g | g
      · exact g c rfl (mem_digS.mp z)
      · cases g
    show (if c ∈ digS.cps.toList then dgRun m b + 1 else 0) = 0
    rw [if_neg h1]
  | c :: a, b, m, hd, hl, h => by
    rw [List.length_cons] at hl
    obtain ⟨k, rfl⟩ : ∃ k, m = k + 1 := ⟨m - 1, by omega⟩
    show (if c ∈ digS.cps.toList then dgRun k (a ++ b) + 1 else 0) = _
    rw [if_pos (mem_digS.mpr hd.head), dgRun_all a b k hd.tail (by omega) (h.imp id (fun g => by rw [List.length_cons] at g; omega)), List.length_cons]
theorem tl_cut (z : Str) (a b : Nat) (h : b ≤ (tl z).length) : tl (cutS z (some (a : Int)) (some (b : Int))) = ((tl z).drop a).take (b - a) := by
  have hz : z.length = (tl z).length := len_tl z
  show ((tl z).drop (HT.sIx z.length 0 (some (a : Int)))).take (HT.sIx z.length z.length (some (b : Int)) - HT.sIx z.length 0 (some (a : Int))) = _
  rw [HT.sIx_nat, HT.sIx_nat, hz, Nat.min_eq_left h]
  by_cases g : a ≤ (tl z).length
  · rw [Nat.min_eq_left g]
  · rw [Nat.min_eq_right (by omega), List.drop_eq_nil_of_le (Nat.le_refl _), List.drop_eq_nil_of_le (by omega), List.take_nil, List.take_nil]
theorem tl_at1 (z : Str) (a : Nat) : tl (at1 z a) = ((tl z).drop a).take 1 := by
  have hz : z.length = (tl z).length := len_tl z
  show ((tl z).drop (HT.sIx z.length 0 (some (a : Int)))).take (HT.sIx z.length z.length (some ((a + 1 : Nat) : Int)) - HT.sIx z.length 0 (some (a : Int))) = _
  rw [HT.sIx_nat, HT.sIx_nat, hz]
  by_cases g : a < (tl z).length
  · rw [Nat.min_eq_left (by omega), Nat.min_eq_left (by omega)]
    congr 1
    omega
  · rw [Nat.min_eq_right (by omega), Nat.min_eq_right (by omega), List.drop_eq_nil_of_le (Nat.le_refl _), List.drop_eq_nil_of_le (by omega), List.take_nil, List.take_nil]
theorem at1_is {z : Str} {a c : Nat} {s : Str} (hs : tl s = [c]) : at1 z a = s ↔ ((tl z).drop a).head? = some c := by
  constructor
  · intro h
    have e := congrArg tl h
    rw [tl_at1, hs] at e
    cases hd : (tl z).drop a with
    | nil => rw [hd] at e; cases e
    | cons d l =>
      rw [hd] at e
      have e1 : d = c := by injection e
      rw [e1]
      rfl
  · intro h
    refine ext_tl ?_
    rw [tl_at1, hs]
    cases hd : (tl z).drop a with
    | nil => rw [hd] at h; cases h
    | cons d l =>
      rw [hd] at h
      injection h with h
      rw [h]
      rfl
theorem tl_comma : tl ("," : Str) = [44] := by
  show tl (Str.ofString ",") = _
  rw [tl_ofString]
  rfl
theorem tl_dot : tl ("." : Str) = [46] := by
  show tl (Str.ofString ".") = _
  rw [tl_ofString]
  rfl
theorem tl_minus : tl ("-" : Str) = [45] := by
  show tl (Str.ofString "-") = _
  rw [tl_ofString]
  rfl
theorem tl_plus : tl ("+" : Str) = [43] := by
  show tl (Str.ofString "+") = _
  rw [tl_ofString]
  rfl
theorem tl_zero : tl ("0" : Str) = [48] := by
  show tl (Str.ofString "0") = _
  rw [tl_ofString]
  rfl
theorem tl_blank : tl (" " : Str) = [32] := by
  show tl (Str.ofString " ") = _
  rw [tl_ofString]
  rfl
theorem tl_empty : tl ("" : Str) = [] := by
  show tl (Str.ofString "") = _
  rw [tl_ofString]
  rfl
theorem one_is {c d : Nat} {s : Str} (hs : tl s = [d]) : (⟨#[c]⟩ : Str) = s ↔ c = d := by
  constructor
  · intro h
    have e := congrArg tl h
    rw [hs] at e
    have e1 : [c] = [d] := e
    injection e1
  · intro h
    refine ext_tl ?_
    rw [hs, ← h]
/-- the point and the digits behind it -/
def fracL : List Nat → List Nat
  | [] => []
  | c :: l => 46 :: c :: l
theorem fracL_len (D : List Nat) : (fracL D).length = if D.length = 0 then 0 else D.length + 1 := by
  cases D with
  | nil => rfl
  | cons c l => rfl
def grpL (gs : List (List Nat)) : List Nat := gs.flatMap (44 :: ·)
theorem grpL_cons (g : List Nat) (gs : List (List Nat)) : grpL (g :: gs) = 44 :: (g ++ grpL gs) := by
  unfold grpL
  rw [List.flatMap_cons]
  rfl
theorem grpL_len : ∀ gs : List (List Nat), (∀ g ∈ gs, g.length = 3) → (grpL gs).length = 4 * gs.length
  | [], _ => rfl
  | g :: gs, h => by
    have := h g (List.mem_cons_self ..)
    rw [grpL_cons, List.length_cons, List.length_append, grpL_len gs (fun x hx => h x (List.mem_cons_of_mem _ hx)), List.length_cons]
    omega
theorem grpL_drop : ∀ (gs : List (List Nat)) (j : Nat), (∀ g ∈ gs, g.length = 3) → j ≤ gs.length → ∀ R : List Nat, (grpL gs ++ R).drop (4 * j) = grpL (gs.drop j) ++ R
  | gs, 0, _, _, R => rfl
  | [], j + 1, _, h, R => absurd h (by simp)
  | g :: gs, j + 1, h, hj, R => by
    have h3 := h g (List.mem_cons_self ..)
    have ih := grpL_drop gs j (fun x hx => h x (List.mem_cons_of_mem _ hx)) (by rw [List.length_cons] at hj; omega) R
    rw [List.drop_succ_cons, ← ih, grpL_cons]
    obtain ⟨a, b, c, rfl⟩ : ∃ a b c, g = [a, b, c] := by
      match g, h3 with
      | [a, b, c], _ => exact ⟨a, b, c, rfl⟩
    rw [show 4 * (j + 1) = 4 * j + 1 + 1 + 1 + 1 by omega]
    rfl
structure Shape (z : Str) (k : Nat) (mk W : List Nat) (gs : List (List Nat)) (D : List Nat) : Prop where
  eq : tl z = List.replicate k 32 ++ (mk ++ (W ++ (grpL gs ++ fracL D)))
  sg : mk = [] ∨ mk = [45] ∨ mk = [43]
  wd : AllDigits W
  wn : W ≠ []
  lead : W = [48] ∧ gs = [] ∨ W.head? ≠ some 48 ∧ (W.length ≤ 3 ∨ gs = [])
  gd : ∀ g ∈ gs, AllDigits g ∧ g.length = 3
  dd : AllDigits D
  dl : D.length ≤ 60
  len : z.length ≤ 2000
theorem noDg_frac (D : List Nat) : NoDg (fracL D) := by
  intro c hc
  cases D with
  | nil => cases hc
  | cons d l =>
    injection hc with hc
    omega
theorem noDg_rest (gs : List (List Nat)) (D : List Nat) : NoDg (grpL gs ++ fracL D) := by
  cases gs with
  | nil => exact noDg_frac D
  | cons g gs =>
    intro c hc
    rw [grpL_cons] at hc
    injection hc with hc
    omega
theorem filter_comma : ∀ gs : List (List Nat), (∀ g ∈ gs, AllDigits g) → (grpL gs).filter (· != 44) = gs.flatten
  | [], _ => rfl
  | g :: gs, h => by
    rw [grpL_cons, List.filter_cons_of_neg (by decide), List.filter_append, filter_comma gs (fun x hx => h x (List.mem_cons_of_mem _ hx)), List.flatten_cons]
    congr 1
    refine List.filter_eq_self.mpr (fun c hc => ?_)
    have := h g (List.mem_cons_self ..) c hc
    simp only [bne_iff_ne]
    omega
theorem filter_dg {l : List Nat} (h : AllDigits l) {c : Nat} (hc : c < 48) : l.filter (· != c) = l := by
  refine List.filter_eq_self.mpr (fun d hd => ?_)
  have := h d hd
  simp only [bne_iff_ne]
  omega
theorem AllDg.append {a b : List Nat} (ha : AllDigits a) (hb : AllDigits b) : AllDigits (a ++ b) := fun c hc => (List.mem_append.mp hc).elim (ha c) (hb c)
theorem AllDg.flatten {gs : List (List Nat)} (h : ∀ g ∈ gs, AllDigits g) : AllDigits gs.flatten := fun c hc => by
  obtain ⟨g, hg, hc⟩ := List.mem_flatten.mp hc
  exact h g hg c hc
theorem blanks_of {z : Str} {k : Nat} {r : List Nat} (e : tl z = List.replicate k 32 ++ r) (h : r.head? ≠ some 32) : blanks z = k := by
  have hl : z.length = k + r.length := by rw [len_tl, e, List.length_append, List.length_replicate]
  obtain ⟨f0, f1, f2⟩ := PyProof.Rows.lo_facts ((" " : Str).cps.contains) z
  have el : Txt.lstripChars z " " = PySem.Builtin.Str.strSub z (stripLo ((" " : Str).cps.contains) true z) z.length := by
    unfold Txt.lstripChars
    rw [PyProof.Rows.stripBy_eq]
    rfl
  have goes : ∀ c : Nat, ((" " : Str).cps.contains c) = decide (c = 32) := fun c => by
    rw [show (" " : Str).cps = #[32] by decide +kernel]
    simp
  generalize stripLo ((" " : Str).cps.contains) true z = lo at f0 f1 f2 el
  have ln : (Txt.lstripChars z " ").length = z.length - lo := by
    rw [el]
    show (z.cps.extract lo z.length).size = _
    rw [Array.size_extract]
    show min z.length z.cps.size - lo = _
    rw [show z.cps.size = z.length from rfl, Nat.min_self]
  have get : ∀ i, z.cps.getD i 0 = ((tl z)[i]?).getD 0 := fun i => by
    show z.cps.getD i 0 = (z.cps.toList[i]?).getD 0
    rw [Array.getElem?_toList]
    simp [Array.getD_eq_getD_getElem?]
  have lk : lo = k := by
    rcases Nat.lt_trichotomy lo k with g | g | g
    · rcases f2 with f2 | f2
      · omega
      · rw [get, goes, e, List.getElem?_append_left (by rw [List.length_replicate]; exact g), List.getElem?_replicate_of_lt g] at f2
        exact absurd f2 (by decide)
    · exact g
    · have f := f1 k g
      rw [get, goes, e, List.getElem?_append_right (by rw [List.length_replicate]; exact Nat.le_refl _), List.length_replicate, Nat.sub_self] at f
      cases r with
      | nil => simp at f
      | cons c r =>
        have f' : decide (c = 32) = true := f
        exact absurd (congrArg some (of_decide_eq_true f')) h
  unfold blanks
  rw [ln]
  omega
end HT
namespace HT
open PySem L2 PySem.NumText TL
theorem some_head {l : List Nat} {i c : Nat} {r : List Nat} (e : l.drop i = c :: r) : l[i]? = some c := by
  have h : (l.drop i)[0]? = some c := by rw [e]; rfl
  rwa [List.getElem?_drop, Nat.add_zero] at h
theorem shape_read {z : Str} {k : Nat} {mk W : List Nat} {gs : List (List Nat)} {D : List Nat} (S : Shape z k mk W gs D) :
    ∃ (kk c p e c0 : Nat), ReadOk z kk c ((digitsVal (W ++ gs.flatten ++ D) : Nat) : Int) p e c0 ∧ (∀ n : Int, readFig n c0 = if mk = [45] then -n else n) ∧ max 0 ((e : Int) - p - 1) = (D.length : Int) := by
  obtain ⟨w, W', hW⟩ : ∃ w W', W = w :: W' := by
    cases W with
    | nil => exact absurd rfl S.wn
    | cons w W' => exact ⟨w, W', rfl⟩
  have hw : 48 ≤ w ∧ w ≤ 57 := S.wd w (by rw [hW]; exact List.mem_cons_self ..)
  have g3 : ∀ g ∈ gs, g.length = 3 := fun g hg => (S.gd g hg).2
  have gd : ∀ g ∈ gs, AllDigits g := fun g hg => (S.gd g hg).1
  obtain ⟨R, hR⟩ : ∃ R, R = grpL gs ++ fracL D := ⟨_, rfl⟩
  have eq := S.eq
  rw [← hR] at eq
  have zl : z.length = k + (mk.length + (W.length + R.length)) := by rw [len_tl, eq, List.length_append, List.length_replicate, List.length_append, List.length_append]
  have Rl : R.length = 4 * gs.length + (fracL D).length := by rw [hR, List.length_append, grpL_len gs g3]
  have dk : (tl z).drop k = mk ++ (W ++ R) := by
    rw [eq, List.drop_left' (by rw [List.length_replicate])]
  have da : (tl z).drop (k + mk.length) = W ++ R := by
    rw [← List.drop_drop, dk, List.drop_left]
  have dw : (tl z).drop (k + mk.length + W.length) = R := by
    rw [← List.drop_drop, da, List.drop_left]
  have bl : blanks z = k := blanks_of eq (by
    rw [hW]
    rcases S.sg with h | h | h <;> rw [h] <;> intro x <;> injection x with x <;> omega)
  have wa : wholeAt z = k + mk.length := by
    unfold wholeAt markQ
    rw [bl]
    rcases S.sg with h | h | h
    · rw [h] at dk ⊢
      rw [hW] at dk
      have h1 : ¬ at1 z k = "-" := fun x => by
        have y := (at1_is tl_minus).mp x
        rw [dk] at y
        injection y with y
        omega
      have h2 : ¬ at1 z k = "+" := fun x => by
        have y := (at1_is tl_plus).mp x
        rw [dk] at y
        injection y with y
        omega
      rw [decide_eq_false h1, decide_eq_false h2]
      rfl
    · rw [h] at dk ⊢
      have h1 : at1 z k = "-" := (at1_is tl_minus).mpr (by rw [dk]; rfl)
      rw [decide_eq_true h1]
      rfl
    · rw [h] at dk ⊢
      have h1 : at1 z k = "+" := (at1_is tl_plus).mpr (by rw [dk]; rfl)
      rw [decide_eq_true h1, Bool.or_true]
      rfl
  have nr : NoDg R := by rw [hR]; exact noDg_rest gs D
  have pw : pastD z (k + mk.length) z.length = k + mk.length + W.length := by
    unfold pastD
    rw [show z.cps.toList.drop (k + mk.length) = W ++ R from da, dgRun_all W R _ S.wd (by omega) (.inl nr)]
  have wl : W.length = W'.length + 1 := by rw [hW]; rfl
  obtain ⟨p, hp⟩ : ∃ p, p = k + mk.length + W.length + 4 * gs.length := ⟨_, rfl⟩
  have dp : (tl z).drop p = fracL D := by
    rw [hp, ← List.drop_drop, dw, hR, grpL_drop gs gs.length g3 (Nat.le_refl _), List.drop_length]
    rfl
  have pz : p + (fracL D).length = z.length := by omega
  have hc0 : ∃ c0, (tl z)[k]? = some c0 ∧ ∀ n : Int, readFig n c0 = if mk = [45] then -n else n := by
    rcases S.sg with h | h | h
    · rw [h, hW] at dk
      refine ⟨w, some_head dk, fun n => ?_⟩
      unfold readFig
      rw [if_neg (fun x => by have := (one_is tl_minus).mp x; omega), h, if_neg (by simp)]
    · rw [h] at dk
      refine ⟨45, some_head dk, fun n => ?_⟩
      unfold readFig
      rw [if_pos ((one_is tl_minus).mpr rfl), h, if_pos rfl]
    · rw [h] at dk
      refine ⟨43, some_head dk, fun n => ?_⟩
      unfold readFig
      rw [if_neg (fun x => by have := (one_is tl_minus).mp x; omega), h, if_neg (by simp)]
  obtain ⟨c0, hc0, hrf⟩ := hc0
  have hpl : at1 z p = "." → D ≠ [] := fun x => by
    have y := (at1_is tl_dot).mp x
    rw [dp] at y
    intro d
    rw [d] at y
    cases y
  have past : D ≠ [] → pastD z (p + 1) 60 = p + 1 + D.length := fun d => by
    unfold pastD
    have e1 : (tl z).drop (p + 1) = D := by
      rw [← List.drop_drop, dp]
      cases D with
      | nil => exact absurd rfl d
      | cons c l => rfl
    have e2 := dgRun_all D [] 60 S.dd S.dl (.inl (fun c hc => by cases hc))
    rw [List.append_nil] at e2
    rw [show z.cps.toList.drop (p + 1) = D from e1, e2]
  have dot : D ≠ [] → at1 z p = "." := fun d => (at1_is tl_dot).mpr (by
    rw [dp]
    cases D with
    | nil => exact absurd rfl d
    | cons c l => rfl)
  have fl := fracL_len D
  have tc : tl (cutS z (some ((k + mk.length : Nat) : Int)) (some (z.length : Int))) = W ++ R := by
    rw [tl_cut _ _ _ (by rw [len_tl]; exact Nat.le_refl _), da, List.take_of_length_le]
    rw [List.length_append]
    omega
  have cm : ("," : Str) = ⟨#[44]⟩ := ext_tl (by rw [tl_comma])
  have dm : ("." : Str) = ⟨#[46]⟩ := ext_tl (by rw [tl_dot])
  have em : ("" : Str) = ⟨#[]⟩ := ext_tl (by rw [tl_empty])
  have f44 : (fracL D).filter (· != 44) = fracL D := by
    refine List.filter_eq_self.mpr (fun c hc => ?_)
    cases D with
    | nil => cases hc
    | cons d l =>
      rcases List.mem_cons.mp hc with e | hc
      · rw [e]
        decide
      · have := S.dd c hc
        simp only [bne_iff_ne]
        omega
  have f46 : (fracL D).filter (· != 46) = D := by
    cases D with
    | nil => rfl
    | cons d l =>
      show (46 :: d :: l).filter (· != 46) = _
      rw [List.filter_cons_of_neg (by decide)]
      exact filter_dg S.dd (by decide)
  have r1 : tl (Txt.replace (cutS z (some ((k + mk.length : Nat) : Int)) (some (z.length : Int))) "," "") = W ++ (gs.flatten ++ fracL D) := by
    rw [cm, em]
    refine (PyProof.Rows.replace_strikes _ 44).trans ?_
    rw [show (cutS z (some ((k + mk.length : Nat) : Int)) (some (z.length : Int))).cps.toList = W ++ R from tc, List.filter_append, hR, List.filter_append, filter_dg S.wd (by decide), filter_comma gs gd, f44]
  have r2 : tl (Txt.replace (Txt.replace (cutS z (some ((k + mk.length : Nat) : Int)) (some (z.length : Int))) "," "") "." "") = W ++ gs.flatten ++ D := by
    rw [dm]
    rw [em] at r1 ⊢
    refine (PyProof.Rows.replace_strikes _ 46).trans ?_
    rw [show (Txt.replace (cutS z (some ((k + mk.length : Nat) : Int)) (some (z.length : Int))) "," ⟨#[]⟩).cps.toList = _ from r1, List.filter_append, List.filter_append, filter_dg S.wd (by decide), filter_dg (AllDg.flatten gd) (by decide), f46, List.append_assoc]
  have fg : gs.flatten.length = 3 * gs.length := by
    clear Rl r1 r2 tc dp hR dw pz hp pw S gd nr
    induction gs with
    | nil => rfl
    | cons g gs ih =>
      rw [List.flatten_cons, List.length_append, g3 g (List.mem_cons_self ..), ih (fun x hx => g3 x (List.mem_cons_of_mem _ hx)), List.length_cons]
      omega
  have zl2 := S.len
  have ee : z.length = placesM z p := by
    unfold placesM
    by_cases d : D = []
    · rw [if_neg (fun x => hpl x d)]
      rw [d] at fl pz
      have : (fracL ([] : List Nat)).length = 0 := rfl
      omega
    · rw [if_pos (dot d), past d]
      rw [if_neg (fun x => d (List.length_eq_zero_iff.mp x))] at fl
      omega
  refine ⟨gs.length, w, p, z.length, c0, ⟨zl2, ?_, ?_, ?_, ?_, ?_, ?_, ?_, ?_, ee, rfl, ?_, ?_, ?_⟩, hrf, ?_⟩
  · rw [bl]
    omega
  · rw [bl]
    exact hc0
  · rw [wa]
    rw [hW] at da
    exact some_head da
  · rw [wa, pw]
    omega
  · intro _ _
    rw [wa, pw]
    refine ⟨by omega, fun j hj => ?_, ?_⟩
    · have e1 : (tl z).drop (k + mk.length + W.length + 4 * j) = grpL (gs.drop j) ++ fracL D := by
        rw [← List.drop_drop, dw, hR, grpL_drop gs j g3 (Nat.le_of_lt hj)]
      have e2 : gs.drop j = gs[j] :: gs.drop (j + 1) := List.drop_eq_getElem_cons hj
      have hm : gs[j] ∈ gs := List.getElem_mem hj
      rw [e2, grpL_cons] at e1
      refine ⟨(at1_is tl_comma).mpr (by rw [e1]; rfl), ?_⟩
      unfold pastD
      have e3 : (tl z).drop (k + mk.length + W.length + 4 * j + 1) = gs[j] ++ (grpL (gs.drop (j + 1)) ++ fracL D) := by
        rw [← List.drop_drop, e1]
        show gs[j] ++ grpL (gs.drop (j + 1)) ++ fracL D = _
        rw [List.append_assoc]
      rw [show z.cps.toList.drop (k + mk.length + W.length + 4 * j + 1) = _ from e3, dgRun_all _ _ 3 (gd _ hm) (by rw [g3 _ hm]; exact Nat.le_refl _) (.inr (g3 _ hm).symm), g3 _ hm]
    · intro x
      have y := (at1_is tl_comma).mp x
      rw [← hp, dp] at y
      cases D with
      | nil => cases y
      | cons d l =>
        injection y with y
        omega
  · rw [wa]
    unfold wholeM
    rw [pw]
    rcases S.lead with ⟨l1, l2⟩ | ⟨l1, l2⟩
    · have e1 : w = 48 := by
        rw [hW] at l1
        injection l1
      have e2 : W.length = 1 := by rw [l1]; rfl
      rw [if_pos ((one_is tl_zero).mpr e1), hp, e2, l2]
      rfl
    · have e1 : w ≠ 48 := fun x => l1 (by rw [hW, x]; rfl)
      rw [if_neg (fun x => e1 ((one_is tl_zero).mp x))]
      by_cases h3 : 3 < k + mk.length + W.length - (k + mk.length)
      · rw [if_pos h3, hp]
        rcases l2 with l2 | l2
        · omega
        · rw [l2]
          rfl
      · rw [if_neg h3, hp]
  · omega
  · intro x
    have d := hpl x
    rw [past d]
    rw [if_neg (fun x => d (List.length_eq_zero_iff.mp x))] at fl
    have : D.length ≠ 0 := fun x => d (List.length_eq_zero_iff.mp x)
    omega
  · rw [wa, len_tl, r1, List.length_append, List.length_append]
    omega
  · rw [wa, len_tl, r2, List.length_append, List.length_append]
    have : D.length ≤ (fracL D).length := by rw [fl]; split <;> omega
    omega
  · rw [wa]
    have ad : AllDigits (W ++ gs.flatten ++ D) := AllDg.append (AllDg.append S.wd (AllDg.flatten gd)) S.dd
    have := intText_digits (x := Txt.replace (Txt.replace (cutS z (some ((k + mk.length : Nat) : Int)) (some (z.length : Int))) "," "") "." "") (by rw [show (Txt.replace (Txt.replace (cutS z (some ((k + mk.length : Nat) : Int)) (some (z.length : Int))) "," "") "." "").cps.toList = _ from r2]; exact ad) (by rw [show (Txt.replace (Txt.replace (cutS z (some ((k + mk.length : Nat) : Int)) (some (z.length : Int))) "," "") "." "").cps.toList = _ from r2, hW]; simp) (by
        rw [len_tl, r2, List.length_append, List.length_append]
        have : D.length ≤ (fracL D).length := by rw [fl]; split <;> omega
        omega)
    rw [show (Txt.replace (Txt.replace (cutS z (some ((k + mk.length : Nat) : Int)) (some (z.length : Int))) "," "") "." "").cps.toList = _ from r2] at this
    exact this
  · by_cases d : D = []
    · rw [d] at pz ⊢
      have : (fracL ([] : List Nat)).length = 0 := rfl
      rw [List.length_nil]
      omega
    · rw [if_neg (fun x => d (List.length_eq_zero_iff.mp x))] at fl
      omega
end HT
namespace HT
open PySem L2 PySem.NumText TL
theorem numL_head : ∀ n : Nat, 1 ≤ n → (numL n).head? ≠ some 48 := by
  intro n
  induction n using Nat.strongRecOn with
  | _ n ih =>
    intro h
    by_cases g : n < 10
    · rw [numL_lt g]
      intro x
      injection x with x
      omega
    · rw [numL_step (by omega)]
      have := ih (n / 10) (by omega) (by omega)
      cases e : numL (n / 10) with
      | nil => exact absurd e (numL_ne _)
      | cons c l =>
        rw [e] at this
        exact this
theorem val_pad : ∀ (k : Nat) (l : List Nat), digitsVal (List.replicate k 48 ++ l) = digitsVal l
  | 0, l => rfl
  | k + 1, l => by
    rw [List.replicate_succ, List.cons_append, digitsVal_zero, val_pad k l]
def absN (fig : Int) : Nat := fig.natAbs
theorem absN_eq (fig : Int) : (if fig < 0 then -fig else fig) = ((absN fig : Nat) : Int) := by
  unfold absN
  split <;> omega
theorem dig_list (fig : Int) (pl : Nat) : tl (digM fig pl) = List.replicate (pl + 1 - (numL (absN fig)).length) 48 ++ numL (absN fig) := by
  unfold digM
  rw [absN_eq]
  have e : tl (Str.ofString (toString ((absN fig : Nat) : Int))) = numL (absN fig) := tl_num (absN fig)
  generalize Str.ofString (toString ((absN fig : Nat) : Int)) = x at e
  have hl : x.length = (numL (absN fig)).length := by rw [len_tl, e]
  unfold Txt.zfill
  by_cases h : (pl : Int) + 1 ≤ (x.length : Int)
  · rw [if_pos h, e, show pl + 1 - (numL (absN fig)).length = 0 by omega]
    rfl
  · rw [if_neg h]
    have hd : ∀ c, x.cps[0]? = some c → 48 ≤ c := fun c hc => by
      rw [← Array.getElem?_toList] at hc
      have : c ∈ tl x := List.mem_of_getElem? hc
      rw [e] at this
      exact (numL_digits _ c this).1
    have e2 : PySem.zfilled x (((pl : Int) + 1).toNat - x.length) = PySem.Builtin.Str.padded x (((pl : Int) + 1).toNat - x.length) 0 48 := by
      unfold PySem.zfilled
      split
      · rename_i h1
        have := hd _ h1
        omega
      · rename_i h1
        have := hd _ h1
        omega
      · rfl
    rw [e2]
    refine (PyProof.Rows.padded_list _ _ _ _).trans ?_
    rw [show x.cps.toList = numL (absN fig) from e, List.replicate_zero, List.append_nil, hl]
    congr 2
theorem tl_pre (z : Str) {i : Int} {n : Nat} (hi : i = (n : Int)) (h : n ≤ (tl z).length) : tl (cutS z none (some i)) = (tl z).take n := by
  subst hi
  have hz : z.length = (tl z).length := len_tl z
  show ((tl z).drop (HT.sIx z.length 0 none)).take (HT.sIx z.length z.length (some (n : Int)) - HT.sIx z.length 0 none) = _
  rw [HT.sIx_none, HT.sIx_nat, hz, Nat.min_eq_left h]
  rfl
theorem tl_post (z : Str) {i : Int} {n : Nat} (hi : i = (n : Int)) (h : n ≤ (tl z).length) : tl (cutS z (some i) none) = (tl z).drop n := by
  subst hi
  have hz : z.length = (tl z).length := len_tl z
  show ((tl z).drop (HT.sIx z.length 0 (some (n : Int)))).take (HT.sIx z.length z.length none - HT.sIx z.length 0 (some (n : Int))) = _
  rw [HT.sIx_none, HT.sIx_nat, hz, Nat.min_eq_left h, List.take_of_length_le]
  rw [List.length_drop]
  exact Nat.le_refl _
theorem tl_rjust (x : Str) {i : Int} (h : 0 ≤ i) : tl (Txt.rjust x i) = List.replicate (i.toNat - x.length) 32 ++ tl x := by
  unfold Txt.rjust
  by_cases g : i ≤ (x.length : Int)
  · rw [if_pos g, show i.toNat - x.length = 0 by omega]
    rfl
  · rw [if_neg g]
    refine (PyProof.Rows.padded_list _ _ _ _).trans ?_
    rw [List.replicate_zero, List.append_nil]
theorem tl_join : ∀ (ps : List Str) (x : Str), tl (Str.join "," (x :: ps)) = tl x ++ grpL (ps.map tl)
  | [], x => by
    show tl x = tl x ++ []
    rw [List.append_nil]
  | y :: ps, x => by
    show tl (x ++ ("," : Str) ++ Str.join "," (y :: ps)) = _
    rw [tl_append, tl_append, tl_comma, tl_join ps y, List.map_cons, grpL_cons, List.append_assoc]
    rfl
def chunks (l : List Nat) (k : Nat) : List (List Nat) := (List.range k).map fun j => (l.drop (3 * j)).take 3
theorem chunks_flat : ∀ (k : Nat) (l : List Nat), 3 * k ≤ l.length → (chunks l k).flatten = l.take (3 * k)
  | 0, l, _ => rfl
  | k + 1, l, h => by
    have ih := chunks_flat k l (by omega)
    unfold chunks at ih ⊢
    rw [List.range_succ, List.map_append, List.flatten_append, ih]
    show l.take (3 * k) ++ ((l.drop (3 * k)).take 3 ++ []) = _
    rw [List.append_nil, show 3 * (k + 1) = 3 * k + 3 by omega, List.take_add]
theorem chunk_mem {l : List Nat} {k : Nat} (h : 3 * k ≤ l.length) (ad : AllDigits l) : ∀ g ∈ chunks l k, AllDigits g ∧ g.length = 3 := fun g hg => by
  obtain ⟨j, hj, rfl⟩ := List.mem_map.mp hg
  have := List.mem_range.mp hj
  refine ⟨fun c hc => ad c (List.mem_of_mem_drop (List.mem_of_mem_take hc)), ?_⟩
  rw [List.length_take, List.length_drop]
  omega
theorem tl_group {d : Str} (h : 1 ≤ d.length) : tl (groupM d) = (tl d).take (firstG d.length) ++ grpL (chunks ((tl d).drop (firstG d.length)) (moreG d.length)) := by
  have hz : d.length = (tl d).length := len_tl d
  have hf : firstG d.length ≤ d.length := by
    unfold firstG
    omega
  have hk : firstG d.length + 3 * moreG d.length = d.length := by
    unfold moreG firstG
    omega
  show tl (PySem.Builtin.Str.glued "," (partsG d (moreG d.length))) = _
  rw [StrLaws.glued_eq_join]
  unfold partsG
  rw [tl_join, tl_pre d rfl (by omega), List.map_map]
  congr 2
  unfold chunks
  refine List.map_congr_left (fun j hj => ?_)
  have hj' := List.mem_range.mp hj
  show tl (cutS d (some ((firstG d.length : Int) + (j : Int) * 3)) (some ((firstG d.length : Int) + (j : Int) * 3 + 3))) = _
  rw [show (firstG d.length : Int) + (j : Int) * 3 = ((firstG d.length + 3 * j : Nat) : Int) by omega, show ((firstG d.length + 3 * j : Nat) : Int) + 3 = ((firstG d.length + 3 * j + 3 : Nat) : Int) by omega, tl_cut d _ _ (by omega), List.drop_drop]
  congr 1
  omega
theorem tl_mark (fig : Int) (sg : Bool) : tl (markM fig sg) = if fig < 0 then [45] else if 0 < fig ∧ sg = true then [43] else [] := by
  unfold markM
  split
  · exact tl_minus
  · split
    · exact tl_plus
    · exact tl_empty
/-- what a written text is -/
structure TextOk (z : Str) (fig : Int) (pl k : Nat) (mk W : List Nat) (gs : List (List Nat)) (D : List Nat) : Prop where
  sh : Shape z k mk W gs D
  dl : D.length = pl
  val : digitsVal (W ++ gs.flatten ++ D) = absN fig
  neg : mk = [45] ↔ fig < 0
  nil : fig = 0 → mk = [] ∧ W = [48]
theorem text_ok {fig : Int} {pl : Nat} {sg gr : Bool} {wd : Int} (h0 : -10 ^ 62 < fig) (h1 : fig < 10 ^ 62) (hp : pl ≤ 60) (w0 : 0 ≤ wd) (w1 : wd ≤ 200) : ∃ (k : Nat) (mk W : List Nat) (gs : List (List Nat)) (D : List Nat), TextOk (textM fig pl sg gr wd) fig pl k mk W gs D ∧ k ≤ 200 ∧ (wd = 0 → k = 0) ∧ (gr = false → gs = []) ∧ (textM fig pl sg gr wd).length ≤ 1200 ∧ (sg = false → mk ≠ [43]) := by
  obtain ⟨d1, d2⟩ := dig_ok h0 h1 hp
  have dl := dig_list fig pl
  obtain ⟨d, hd⟩ : ∃ d, d = digM fig pl := ⟨_, rfl⟩
  have et : textM fig pl sg gr wd = Txt.rjust (markM fig sg ++ (if 0 < pl then (if gr = true then groupM (cutS d none (some ((d.length : Int) - (pl : Int)))) else cutS d none (some ((d.length : Int) - (pl : Int)))) ++ ("." : Str) ++ cutS d (some ((d.length : Int) - (pl : Int))) none else (if gr = true then groupM (cutS d none (some ((d.length : Int) - (pl : Int)))) else cutS d none (some ((d.length : Int) - (pl : Int)))))) wd := by
    rw [hd]
    rfl
  rw [← hd] at d1 d2 dl
  have ad : AllDigits (tl d) := by
    rw [dl]
    refine AllDg.append (fun c hc => ?_) (numL_digits _)
    rw [(List.mem_replicate.mp hc).2]
    decide
  have dn : d.length = (tl d).length := len_tl d
  obtain ⟨q, hq⟩ : ∃ q : Nat, q = d.length - pl := ⟨_, rfl⟩
  have eq : (d.length : Int) - (pl : Int) = (q : Int) := by omega
  rw [eq] at et
  have t1 : tl (cutS d none (some (q : Int))) = (tl d).take q := tl_pre d rfl (by omega)
  have t2 : tl (cutS d (some (q : Int)) none) = (tl d).drop q := tl_post d rfl (by omega)
  obtain ⟨a, ha⟩ : ∃ a, a = cutS d none (some (q : Int)) := ⟨_, rfl⟩
  obtain ⟨b, hb⟩ : ∃ b, b = cutS d (some (q : Int)) none := ⟨_, rfl⟩
  rw [← ha] at t1
  rw [← hb] at t2
  rw [← ha, ← hb] at et
  have al : a.length = q := by rw [len_tl, t1, List.length_take]; omega
  have bl : (tl b).length = pl := by rw [t2, List.length_drop]; omega
  have aa : AllDigits (tl a) := by rw [t1]; exact fun c hc => ad c (List.mem_of_mem_take hc)
  have ab : AllDigits (tl b) := by rw [t2]; exact fun c hc => ad c (List.mem_of_mem_drop hc)
  have cat : tl a ++ tl b = tl d := by rw [t1, t2, List.take_append_drop]
  have val : digitsVal (tl a ++ tl b) = absN fig := by rw [cat, dl, val_pad, numL_val]
  have hq1 : 1 ≤ q := by omega
  have la : (tl a).length = q := by rw [← len_tl, al]
  -- the first digit
  have lead : tl a = [48] ∨ (tl a).head? ≠ some 48 := by
    by_cases g : d.length = pl + 1
    · have : (tl a).length = 1 := by omega
      cases e : tl a with
      | nil => rw [e] at this; cases this
      | cons c l =>
        rw [e] at this
        have : l = [] := by
          cases l with
          | nil => rfl
          | cons x y => simp at this
        rw [this]
        by_cases c48 : c = 48
        · exact .inl (by rw [c48])
        · exact .inr (fun x => c48 (by injection x))
    · right
      have e0 : pl + 1 - (numL (absN fig)).length = 0 := by
        rw [dn, dl, List.length_append, List.length_replicate] at g d1
        omega
      rw [e0] at dl
      have dl' : tl d = numL (absN fig) := dl
      have n1 : 1 ≤ absN fig := by
        rcases Nat.eq_zero_or_pos (absN fig) with z | z
        · rw [z, numL_lt (by decide)] at dl'
          rw [dn, dl'] at g d1
          simp at g d1
          omega
        · exact z
      have hh := numL_head _ n1
      rw [t1, dl']
      cases e : numL (absN fig) with
      | nil => exact absurd e (numL_ne _)
      | cons c l =>
        rw [e] at hh
        obtain ⟨q', rfl⟩ : ∃ q', q = q' + 1 := ⟨q - 1, by omega⟩
        rw [List.take_succ_cons]
        exact hh
  have zero : fig = 0 → tl a = [48] := fun z => by
    have n0 : absN fig = 0 := by rw [z]; rfl
    rw [n0, numL_lt (by decide)] at dl
    have dln := congrArg List.length dl
    rw [List.length_append, List.length_replicate] at dln
    have : d.length = pl + 1 := by
      rw [dn, dln]
      show pl + 1 - 1 + 1 = _
      omega
    have q1 : q = 1 := by omega
    rw [t1, q1, dl]
    show ((List.replicate (pl + 1 - 1) 48) ++ [48]).take 1 = _
    cases pl with
    | zero => rfl
    | succ n => rfl
  have mk3 : tl (markM fig sg) = [] ∨ tl (markM fig sg) = [45] ∨ tl (markM fig sg) = [43] := by
    rw [tl_mark]
    split
    · exact .inr (.inl rfl)
    · split
      · exact .inr (.inr rfl)
      · exact .inl rfl
  have neg : tl (markM fig sg) = [45] ↔ fig < 0 := by
    rw [tl_mark]
    split
    · rename_i h
      exact ⟨fun _ => h, fun _ => rfl⟩
    · rename_i h
      refine ⟨fun x => ?_, fun x => (h x).elim⟩
      split at x
      · injection x with x
        omega
      · cases x
  have nil : fig = 0 → tl (markM fig sg) = [] := fun z => by
    rw [tl_mark, z]
    rfl
  have np : sg = false → tl (markM fig sg) ≠ [43] := fun z => by
    rw [tl_mark, z]
    split
    · decide
    · split
      · rename_i h
        exact absurd h.2 (by decide)
      · decide
  have fr : ∀ t : Str, tl (if 0 < pl then t ++ ("." : Str) ++ b else t) = tl t ++ fracL (tl b) := fun t => by
    by_cases g : 0 < pl
    · rw [if_pos g, tl_append, tl_append, tl_dot, List.append_assoc]
      cases e : tl b with
      | nil => rw [e] at bl; simp at bl; omega
      | cons c l => rfl
    · rw [if_neg g]
      cases e : tl b with
      | nil => exact (List.append_nil _).symm
      | cons c l => rw [e] at bl; simp at bl; omega
  have ml : (tl (markM fig sg)).length ≤ 1 := by
    rcases mk3 with h | h | h <;> rw [h] <;> decide
  have fl : (fracL (tl b)).length ≤ 61 := by
    rw [fracL_len, bl]
    split <;> omega
  obtain ⟨k, hk⟩ : ∃ k, k = wd.toNat - (markM fig sg ++ (if 0 < pl then (if gr = true then groupM a else a) ++ ("." : Str) ++ b else (if gr = true then groupM a else a))).length := ⟨_, rfl⟩
  have tz : tl (textM fig pl sg gr wd) = List.replicate k 32 ++ (tl (markM fig sg) ++ (tl (if gr = true then groupM a else a) ++ fracL (tl b))) := by
    rw [et, tl_rjust _ w0, ← hk, tl_append, fr]
  have kl : k ≤ 200 := by omega
  have k0 : wd = 0 → k = 0 := fun z => by
    rw [hk, z]
    show 0 - _ = 0
    exact Nat.zero_sub _
  cases gr with
  | false =>
    rw [if_neg (by decide)] at tz
    have zl : (textM fig pl sg false wd).length ≤ 1200 := by
      rw [len_tl, tz, List.length_append, List.length_replicate, List.length_append, List.length_append]
      omega
    refine ⟨k, tl (markM fig sg), tl a, [], tl b, ⟨⟨?_, mk3, aa, ?_, ?_, fun _ h => (by cases h), ab, by omega, by omega⟩, bl, ?_, neg, fun z => ⟨nil z, zero z⟩⟩, kl, k0, fun _ => rfl, zl, np⟩
    · rw [tz]
      rfl
    · intro x
      rw [x] at la
      simp at la
      omega
    · rcases lead with h | h
      · exact .inl ⟨h, rfl⟩
      · exact .inr ⟨h, .inr rfl⟩
    · rw [List.flatten_nil, List.append_nil]
      exact val
  | true =>
    rw [if_pos rfl, tl_group (by omega), List.append_assoc] at tz
    have hf : firstG a.length ≤ a.length := by
      unfold firstG
      omega
    have hf1 : 1 ≤ firstG a.length ∧ firstG a.length ≤ 3 := by
      unfold firstG
      omega
    have hm : firstG a.length + 3 * moreG a.length = a.length := by
      unfold moreG firstG
      omega
    have dlen : ((tl a).drop (firstG a.length)).length = 3 * moreG a.length := by
      rw [List.length_drop]
      omega
    have ad2 : AllDigits ((tl a).drop (firstG a.length)) := fun c hc => aa c (List.mem_of_mem_drop hc)
    have cm := chunk_mem (k := moreG a.length) (Nat.le_of_eq dlen.symm) ad2
    have cl : (chunks ((tl a).drop (firstG a.length)) (moreG a.length)).length = moreG a.length := by
      unfold chunks
      rw [List.length_map, List.length_range]
    have gl := grpL_len (chunks ((tl a).drop (firstG a.length)) (moreG a.length)) (fun g hg => (cm g hg).2)
    have fl2 : ((tl a).take (firstG a.length)).length = firstG a.length := by
      rw [List.length_take]
      omega
    have zl : (textM fig pl sg true wd).length ≤ 1200 := by
      rw [len_tl, tz, List.length_append, List.length_replicate, List.length_append, List.length_append, List.length_append, gl, cl, fl2]
      omega
    have hw : ((tl a).take (firstG a.length)).head? = (tl a).head? := by
      cases e : tl a with
      | nil => rfl
      | cons c l =>
        obtain ⟨f', hf'⟩ : ∃ f', firstG a.length = f' + 1 := ⟨firstG a.length - 1, by omega⟩
        rw [hf']
        rfl
    have tak : tl a = [48] → (tl a).take (firstG a.length) = [48] := fun z => by
      have : firstG a.length = 1 := by
        have : (tl a).length = 1 := by rw [z]; rfl
        omega
      rw [this, z]
      rfl
    refine ⟨k, tl (markM fig sg), (tl a).take (firstG a.length), chunks ((tl a).drop (firstG a.length)) (moreG a.length), tl b, ⟨⟨tz, mk3, fun c hc => aa c (List.mem_of_mem_take hc), ?_, ?_, cm, ab, by omega, by omega⟩, bl, ?_, neg, fun z => ⟨nil z, tak (zero z)⟩⟩, kl, k0, fun x => (by cases x), zl, np⟩
    · intro x
      rw [x] at fl2
      simp at fl2
      omega
    · rcases lead with h | h
      · refine .inl ⟨tak h, ?_⟩
        have : moreG a.length = 0 := by
          have : (tl a).length = 1 := by rw [h]; rfl
          omega
        rw [this]
        rfl
      · exact .inr ⟨by rw [hw]; exact h, .inl (by omega)⟩
    · rw [chunks_flat _ _ (Nat.le_of_eq dlen.symm), List.take_of_length_le (Nat.le_of_eq dlen), List.take_append_drop]
      exact val
end HT
namespace HT
open PySem L2 PySem.NumText TL
/-- what read_text tells of a text -/
def Reads (z : Str) (fig : Int) (pl : Nat) : Prop := ∃ (kk c p e c0 : Nat) (n : Int), ReadOk z kk c n p e c0 ∧ readFig n c0 = fig ∧ max 0 ((e : Int) - p - 1) = (pl : Int)
theorem shape_reads {z : Str} {k : Nat} {mk W : List Nat} {gs : List (List Nat)} {D : List Nat} (S : Shape z k mk W gs D) {fig : Int} {pl : Nat} (h : (if mk = [45] then -((digitsVal (W ++ gs.flatten ++ D) : Nat) : Int) else ((digitsVal (W ++ gs.flatten ++ D) : Nat) : Int)) = fig) (hp : D.length = pl) : Reads z fig pl := by
  obtain ⟨kk, c, p, e, c0, R, f, m⟩ := shape_read S
  exact ⟨kk, c, p, e, c0, _, R, (f _).trans h, by rw [m, hp]⟩
theorem TextOk.fig {z : Str} {fig : Int} {pl k : Nat} {mk W : List Nat} {gs : List (List Nat)} {D : List Nat} (T : TextOk z fig pl k mk W gs D) : (if mk = [45] then -((digitsVal (W ++ gs.flatten ++ D) : Nat) : Int) else ((digitsVal (W ++ gs.flatten ++ D) : Nat) : Int)) = fig := by
  rw [T.val]
  unfold absN
  by_cases g : fig < 0
  · rw [if_pos (T.neg.mpr g)]
    omega
  · rw [if_neg (fun x => g (T.neg.mp x))]
    omega
theorem text_reads {fig : Int} {pl : Nat} {sg gr : Bool} {wd : Int} (h0 : -10 ^ 62 < fig) (h1 : fig < 10 ^ 62) (hp : pl ≤ 60) (w0 : 0 ≤ wd) (w1 : wd ≤ 200) : Reads (textM fig pl sg gr wd) fig pl := by
  obtain ⟨k, mk, W, gs, D, T, _⟩ := text_ok (sg := sg) (gr := gr) h0 h1 hp w0 w1
  exact shape_reads T.sh T.fig T.dl
theorem tl_blank3 : tl ("   " : Str) = [32, 32, 32] := by
  show tl (Str.ofString "   ") = _
  rw [tl_ofString]
  rfl
theorem text_reads3 {fig : Int} {pl : Nat} {sg gr : Bool} {wd : Int} (h0 : -10 ^ 62 < fig) (h1 : fig < 10 ^ 62) (hp : pl ≤ 60) (w0 : 0 ≤ wd) (w1 : wd ≤ 200) : Reads (("   " : Str) ++ textM fig pl sg gr wd) fig pl := by
  obtain ⟨k, mk, W, gs, D, T, _, _, _, hl, _⟩ := text_ok (sg := sg) (gr := gr) h0 h1 hp w0 w1
  refine shape_reads (k := 3 + k) (mk := mk) (W := W) (gs := gs) (D := D) ⟨?_, T.sh.sg, T.sh.wd, T.sh.wn, T.sh.lead, T.sh.gd, T.sh.dd, T.sh.dl, ?_⟩ T.fig T.dl
  · rw [tl_append, tl_blank3, T.sh.eq, show 3 + k = k + 1 + 1 + 1 by omega]
    rfl
  · rw [len_tl, tl_append, tl_blank3, List.length_append, ← len_tl]
    have : [32, 32, 32].length = 3 := rfl
    omega
theorem nought_reads {pl : Nat} (hp : pl ≤ 60) : Reads (("-" : Str) ++ textM 0 pl false false 0) 0 pl := by
  obtain ⟨k, mk, W, gs, D, T, _, hk, _, hl, _⟩ := text_ok (fig := 0) (sg := false) (gr := false) (wd := 0) (by decide) (by decide) hp (by decide) (by decide)
  have hv : digitsVal (W ++ gs.flatten ++ D) = 0 := T.val
  have e := T.sh.eq
  rw [hk rfl, (T.nil rfl).1] at e
  refine shape_reads (k := 0) (mk := [45]) (W := W) (gs := gs) (D := D) ⟨?_, .inr (.inl rfl), T.sh.wd, T.sh.wn, T.sh.lead, T.sh.gd, T.sh.dd, T.sh.dl, ?_⟩ (by rw [hv]; rfl) T.dl
  · rw [tl_append, tl_minus, e]
    rfl
  · rw [len_tl, tl_append, tl_minus, List.length_append, ← len_tl]
    have : [45].length = 1 := rfl
    omega
theorem nought_first {pl : Nat} (hp : pl ≤ 60) : cutS (textM 0 pl true false 0) none (some 1) = ("0" : Str) := by
  obtain ⟨k, mk, W, gs, D, T, _, hk, _, hl, _⟩ := text_ok (fig := 0) (sg := true) (gr := false) (wd := 0) (by decide) (by decide) hp (by decide) (by decide)
  have e := T.sh.eq
  rw [hk rfl, (T.nil rfl).1, (T.nil rfl).2] at e
  refine ext_tl ?_
  rw [tl_zero, tl_pre _ (i := (1 : Int)) (n := 1) rfl (by rw [e]; simp), e]
  rfl
def isDg (c : Nat) : Bool := decide (48 ≤ c) && decide (c ≤ 57)
theorem adl {l : List Nat} (h : l.all isDg = true) : AllDigits l := fun c hc => by
  have := List.all_eq_true.mp h c hc
  unfold isDg at this
  rw [Bool.and_eq_true] at this
  exact ⟨of_decide_eq_true this.1, of_decide_eq_true this.2⟩
theorem dg_filter {l : List Nat} (h : AllDigits l) : l.filter isDg = l := by
  refine List.filter_eq_self.mpr (fun c hc => ?_)
  have := h c hc
  unfold isDg
  rw [decide_eq_true this.1, decide_eq_true this.2]
  rfl
def figOf (z : Str) : Int := if (tl z).head? = some 45 then -((digitsVal ((tl z).filter isDg) : Nat) : Int) else ((digitsVal ((tl z).filter isDg) : Nat) : Int)
theorem fig_back {fig : Int} {pl : Nat} (h0 : -10 ^ 62 < fig) (h1 : fig < 10 ^ 62) (hp : pl ≤ 60) : figOf (textM fig pl false false 0) = fig := by
  obtain ⟨k, mk, W, gs, D, T, _, hk, hg, hl, hm⟩ := text_ok (fig := fig) (sg := false) (gr := false) (wd := 0) h0 h1 hp (by decide) (by decide)
  have e := T.sh.eq
  have f := T.fig
  rw [hk rfl, hg rfl] at e
  rw [hg rfl, List.flatten_nil, List.append_nil] at f
  have ff : (fracL D).filter isDg = D := by
    have := dg_filter T.sh.dd
    cases D with
    | nil => rfl
    | cons c l =>
      show (46 :: c :: l).filter isDg = _
      rw [List.filter_cons_of_neg (by decide)]
      exact this
  have e2 : tl (textM fig pl false false 0) = mk ++ (W ++ fracL D) := e
  have e3 : (W ++ fracL D).filter isDg = W ++ D := by rw [List.filter_append, ff, dg_filter T.sh.wd]
  unfold figOf
  rw [e2]
  rcases T.sh.sg with g | g | g
  · have hh : ¬ (W ++ fracL D).head? = some 45 := fun x => by
      have wn := T.sh.wn
      have wd := T.sh.wd
      cases W with
      | nil => exact wn rfl
      | cons c l =>
        injection x with x
        have := wd c (List.mem_cons_self ..)
        omega
    rw [g, List.nil_append, if_neg hh, e3]
    rw [g, if_neg (by simp)] at f
    exact f
  · rw [g]
    rw [g, if_pos rfl] at f
    have e4 : ([45] ++ (W ++ fracL D)).filter isDg = W ++ D := by
      rw [show [45] ++ (W ++ fracL D) = 45 :: (W ++ fracL D) from rfl, List.filter_cons_of_neg (by decide), e3]
    rw [e4]
    exact f
  · exact (hm rfl g).elim
theorem text_inj {fig oth : Int} {pl : Nat} (h0 : -10 ^ 62 < fig) (h1 : fig < 10 ^ 62) (g0 : -10 ^ 62 < oth) (g1 : oth < 10 ^ 62) (hp : pl ≤ 60) : decide (textM fig pl false false 0 = textM oth pl false false 0) = decide (fig = oth) := by
  by_cases h : fig = oth
  · rw [h, decide_eq_true rfl, decide_eq_true rfl]
  · rw [decide_eq_false h, decide_eq_false (fun x => h ?_)]
    rw [← fig_back h0 h1 hp, x, fig_back g0 g1 hp]
/-! ### the law's own texts -/
theorem foldl_app (c : Nat) : ∀ (n : Nat) (a : Array Nat), ((List.replicate n #[c]).foldl (· ++ ·) a).toList = a.toList ++ List.replicate n c
  | 0, a => by simp
  | n + 1, a => by
    rw [List.replicate_succ, List.foldl_cons, foldl_app c n, Array.toList_append, List.append_assoc]
    rfl
theorem tl_mul {z : Str} {c : Nat} (h : tl z = [c]) {n : Nat} (h2 : 2 ≤ n) : tl (Txt.mul z (n : Int)) = List.replicate n c := by
  have hz : z.length = 1 := by rw [len_tl, h]; rfl
  have hc : z.cps = #[c] := Array.toList_inj.mp h
  unfold Txt.mul
  rw [if_neg (by omega), if_neg (by rw [hz]; simp; omega), Int.toNat_natCast, hc]
  show ((List.replicate n #[c]).foldl (· ++ ·) #[]).toList = _
  rw [foldl_app]
  rfl
theorem tl_nine : tl ("9" : Str) = [57] := by
  show tl (Str.ofString "9") = _
  rw [tl_ofString]
  rfl
theorem tl_one : tl ("1" : Str) = [49] := by
  show tl (Str.ofString "1") = _
  rw [tl_ofString]
  rfl
theorem tl_half : tl (".5" : Str) = [46, 53] := by
  show tl (Str.ofString ".5") = _
  rw [tl_ofString]
  rfl
theorem rep_digits {n c : Nat} (h : 48 ≤ c ∧ c ≤ 57) : AllDigits (List.replicate n c) := fun d hd => by
  rw [(List.mem_replicate.mp hd).2]
  exact h
theorem nines_reads : Reads (Txt.mul ("9" : Str) 1900) (((10 : Int) ^ (50 : Int).toNat) ^ (38 : Int).toNat - 1) 0 := by
  have e := tl_mul tl_nine (n := 1900) (by decide)
  refine shape_reads (k := 0) (mk := []) (W := List.replicate 1900 57) (gs := []) (D := []) ⟨?_, .inl rfl, rep_digits (by decide), ?_, .inr ⟨?_, .inr rfl⟩, fun _ h => (by cases h), fun _ h => (by cases h), by decide, ?_⟩ (by decide +kernel) rfl
  · rw [show (1900 : Int) = ((1900 : Nat) : Int) from rfl, e]
    exact (List.append_nil _).symm
  · intro x
    have := congrArg List.length x
    rw [List.length_replicate] at this
    cases this
  · rw [List.head?_replicate]
    decide
  · rw [show (1900 : Int) = ((1900 : Nat) : Int) from rfl, len_tl, e, List.length_replicate]
    decide
theorem long_reads : Reads (("1" : Str) ++ Txt.mul ("0" : Str) 300 ++ (".5" : Str)) (((10 : Int) ^ (50 : Int).toNat) ^ (6 : Int).toNat * 10 + 5) 1 := by
  have e := tl_mul tl_zero (n := 300) (by decide)
  have e2 : tl (("1" : Str) ++ Txt.mul ("0" : Str) 300 ++ (".5" : Str)) = [49] ++ List.replicate 300 48 ++ [46, 53] := by
    rw [tl_append, tl_append, tl_one, tl_half, show (300 : Int) = ((300 : Nat) : Int) from rfl, e]
  refine shape_reads (k := 0) (mk := []) (W := [49] ++ List.replicate 300 48) (gs := []) (D := [53]) ⟨?_, .inl rfl, AllDg.append (fun c h => (by rw [List.mem_singleton.mp h]; decide)) (rep_digits (by decide)), ?_, .inr ⟨?_, .inr rfl⟩, fun _ h => (by cases h), fun c h => (by rw [List.mem_singleton.mp h]; decide), by decide, ?_⟩ (by decide +kernel) rfl
  · rw [e2]
    rfl
  · intro x
    cases x
  · intro x
    injection x with x
    cases x
  · rw [len_tl, e2, List.length_append, List.length_append, List.length_replicate]
    decide
theorem tl_group3 : tl ("+1,000.50" : Str) = [43, 49, 44, 48, 48, 48, 46, 53, 48] := by
  show tl (Str.ofString "+1,000.50") = _
  rw [tl_ofString]
  rfl
theorem tl_twelve : tl ("  12" : Str) = [32, 32, 49, 50] := by
  show tl (Str.ofString "  12") = _
  rw [tl_ofString]
  rfl
theorem group_reads : Reads ("+1,000.50" : Str) 100050 2 := by
  refine shape_reads (k := 0) (mk := [43]) (W := [49]) (gs := [[48, 48, 48]]) (D := [53, 48]) ⟨?_, .inr (.inr rfl), adl (by decide), by decide, .inr ⟨by decide, .inl (by decide)⟩, fun g hg => (by rw [List.mem_singleton.mp hg]; exact ⟨adl (by decide), rfl⟩), adl (by decide), by decide, ?_⟩ (by decide) rfl
  · rw [tl_group3]
    rfl
  · rw [len_tl, tl_group3]
    decide
theorem twelve_reads : Reads ("  12" : Str) 12 0 := by
  refine shape_reads (k := 2) (mk := []) (W := [49, 50]) (gs := []) (D := []) ⟨?_, .inl rfl, adl (by decide), by decide, .inr ⟨by decide, .inl (by decide)⟩, fun g hg => (by cases hg), adl (by decide), by decide, ?_⟩ (by decide) rfl
  · rw [tl_twelve]
    rfl
  · rw [len_tl, tl_twelve]
    decide
end HT
namespace HT
open PySem L2
/-- the modes -/
def Mode (m : Str) : Prop := m = "down" ∨ m = "up" ∨ m = "half_down" ∨ m = "half_up" ∨ m = "half_even"
/-- a side's parts -/
structure SideP (o s : Int) (m : Str) : Prop where
  o0 : -10 ^ 40 ≤ o
  o1 : o ≤ 10 ^ 40
  s0 : 1 ≤ s
  s1 : s ≤ 10 ^ 30
  md : Mode m
def sideV (o s : Int) (m : Str) : HO := .tup [.int o, .int s, .str m]
def modesV : List V := [.str "down", .str "up", .str "half_down", .str "half_up", .str "half_even"]
/-- the further names that the text of sides does not bind, and its table of modes -/
structure SideT (K : PySem.W.Frag) (mg : Str → Option Value) (aM : Addr) : Prop where
  isi : mg "isinstance" = none
  int : mg "int" = none
  bool : mg "bool" = none
  tuple : mg "tuple" = none
  len : mg "len" = none
  dm : mg "divmod" = none
  gM : mg "MODES" = some (.ref aM)
  tM : ∀ H, SqT K H aM modesV
def spCheckSide : Sp := fun vs H Q _ => ∃ (p : Addr) (o s : Int) (m : Str), vs = [.ref p] ∧ H p = some (sideV o s m) ∧ SideP o s m ∧ Q .non H
theorem mode_in {m : Str} (h : Mode m) : inV (.str m) modesV = true := by
  rcases h with e | e | e | e | e <;> subst e <;> decide +kernel
theorem mode_of {x : V} (h : x ∈ [V.str "down", .str "up", .str "half_down", .str "half_up", .str "half_even"]) : ∃ m : Str, x = .str m ∧ Mode m := by
  simp only [List.mem_cons, List.not_mem_nil, or_false] at h
  rcases h with h | h | h | h | h
  · exact ⟨_, h, .inl rfl⟩
  · exact ⟨_, h, .inr (.inl rfl)⟩
  · exact ⟨_, h, .inr (.inr (.inl rfl))⟩
  · exact ⟨_, h, .inr (.inr (.inr (.inl rfl)))⟩
  · exact ⟨_, h, .inr (.inr (.inr (.inr rfl)))⟩
section
variable {P : Program} {w : World} {K : PySem.W.Frag} {mg : Str → Option Value} {base : Heap} {aM fB : Addr} {dB : FuncData}
theorem ok_check_side {f : Addr} {fd : FuncData} (F : Fun K "check_side" "check_side" s_check_side f fd) (T : SideT K mg aM) (B : Cal P w K mg base "is_int_between" 2 ["thing", "least", "most"] spBetween fB dB) : FnOk P w K mg base CX0 3 f fd ["side"] spCheckSide := by
  refine F.ok sc_check_side (fun vs H Q E h => ?_) (fun cdv A outer s H vs Q E hr h => ?_)
  · obtain ⟨p, o, s, m, rfl, _⟩ := h
    rfl
  · obtain ⟨p, o, s, m, rfl, hp, S, q⟩ := h
    have nd := sc_check_side.nd
    refine ⟨_, pss_cons (ps_if (PW.pt (pw_or (pt_not (pt_val (pe_callB call_isi (by rfl) T.isi (by decide +kernel) (pa_cons (pv 0) (pa_cons (pe_bltn (v := .ty "tuple") (by rfl) T.tuple (by decide +kernel) rfl) pa_nil)))))
        (pw_or1 (pt_cmpR op_ne (pe_callB call_len_seq (by rfl) T.len PySem.boot_len (pa_cons (pv 0) pa_nil)) pe_int (nomark _))))) (pss_one ps_never) pss_nil)
      (pss_cons (ps_asg (pv 0) (pg_tup (by rfl) (pgs_cons (pg_name (i := 1) nd rfl (Or.inl rfl)) (pgs_cons (pg_name (i := 2) nd rfl (Or.inl rfl)) (pgs_cons (pg_name (i := 3) nd rfl (Or.inl rfl)) pgs_nil)))))
      (pss_cons (ps_if (pt_not (pt_val (pcl B hr (by decide) (by rfl) (pa_cons (pv 1) (pa_cons (pe_un un_neg (pe_op op_pow pe_int pe_int)) (pa_cons (pe_op op_pow pe_int pe_int) pa_nil)))))) (pss_one ps_never) pss_nil)
      (pss_cons (ps_if (pt_not (pt_val (pcl B hr (by decide) (by rfl) (pa_cons (pv 2) (pa_cons pe_int (pa_cons (pe_op op_pow pe_int pe_int) pa_nil)))))) (pss_one ps_never) pss_nil)
      (pss_one (ps_if (pt_cmpR op_notIn_seq (pv 3) (pe_glob (v := .ref aM) (by rfl) T.gM rfl) (by rfl)) (pss_one ps_never) pss_nil))))), ?_⟩
    walk_at "rd"
    refine ⟨_, _, _, _, _, rfl, .ty "tuple", .base (.tup hp), kit_ty (r := true) (by decide +kernel), ?_⟩
    walk_at "rd"
    refine ⟨p, _, rfl, .inr (SqT.of hp), rfl, ?_⟩
    walk_at "rd"
    refine ⟨p, _, rfl, SqT.of hp, rfl, _, _, rfl, _, _, rfl, _, _, rfl, rfl, ?_⟩
    walk_at "rd"
    refine ⟨⟨by decide, by decide, by decide⟩, ?_⟩
    walk_at "rd"
    refine ⟨⟨by decide, by decide, by decide⟩, _, _, _, rfl, ?_⟩
    have e1 : (decide (-(10 : Int) ^ (40 : Int).toNat ≤ o) && decide (o ≤ (10 : Int) ^ (40 : Int).toNat)) = true := by
      rw [decide_eq_true (show -(10 : Int) ^ (40 : Int).toNat ≤ o from S.o0), decide_eq_true (show o ≤ (10 : Int) ^ (40 : Int).toNat from S.o1)]
      rfl
    refine ⟨_, rfl, ?_⟩
    refine ite2 (fun h => (not_t h e1).elim) (fun _ => ?_)
    walk_at "rd"
    refine ⟨⟨by decide, by decide, by decide⟩, _, _, _, rfl, ?_⟩
    have e2 : (decide ((1 : Int) ≤ s) && decide (s ≤ (10 : Int) ^ (30 : Int).toNat)) = true := by
      rw [decide_eq_true S.s0, decide_eq_true (show s ≤ (10 : Int) ^ (30 : Int).toNat from S.s1)]
      rfl
    refine ⟨_, rfl, ?_⟩
    refine ite2 (fun h => (not_t h e2).elim) (fun _ => ?_)
    walk_at "rd"
    refine ⟨aM, _, rfl, .inr (T.tM H), rfl, by decide, ?_⟩
    walk_at "rd"
    refine ite2 (fun h => (not_t h (mode_in S.md)).elim) (fun _ => ?_)
    exact q
end
end HT
namespace HT
open PySem L2
/-- the names that the law gives -/
def tenN : List Str := ["usd", "eur", "loop", "abcdefgh", "x", "sets", "jkmqvwyz", "ends", "a", "sides"]
def NameP (n : Str) : Prop := n ∈ tenN
def noN : List V := [.str "at", .str "down", .str "end", .str "log", .str "places", .str "set", .str "side", .str "up"]
def lettS : Str := "abcdefghijklmnopqrstuvwxyz"
/-- what is asked of the names that the papers' text does not bind, and of its constants -/
structure EnT (K : PySem.W.Frag) (mg : Str → Option Value) (aN : Addr) : Prop where
  isi : mg "isinstance" = none
  str : mg "str" = none
  tuple : mg "tuple" = none
  list : mg "list" = none
  len : mg "len" = none
  all : mg "all" = none
  gN : mg "NO_NAMES" = some (.ref aN)
  tN : ∀ H, SqT K H aN noN
  lt : ∃ t, mg "LETTERS" = some (.str lettS t)
  ml : ∃ t, mg "MOST_LETTERS" = some (.int 8 t)
  ms : ∃ t, mg "MOST_SIDES" = some (.int 4 t)
  mp : ∃ t, mg "MOST_PLACES" = some (.int 60 t)
  sn : ∃ t, mg "MOST_SEEN" = some (.int 50 t)
/-- an entry of a paper -/
inductive Ent where
  | side (n : Str) (o s : Int) (m : Str) (pl : Nat)
  | set (n : Str) (ns : List Str)
  | log (n g : Str) (ls : List (Str × Str))
def Ent.name : Ent → Str
  | .side n .. => n
  | .set n _ => n
  | .log n .. => n
/-- an entry as a tuple at p -/
def EntAt (H : Hp) (p : Addr) : Ent → Prop
  | .side n o s m pl => ∃ q, H p = some (.tup [.str "side", .str n, .ref q, .int (pl : Int)]) ∧ H q = some (sideV o s m)
  | .set n ns => ∃ q, H p = some (.tup [.str "set", .str n, .ref q]) ∧ H q = some (.tup (ns.map V.str))
  | .log n g ls => ∃ (q : Addr) (ps : List Addr), H p = some (.tup [.str "log", .str n, .str g, .ref q]) ∧ H q = some (.tup (ps.map V.ref)) ∧ ps.length = ls.length ∧ ∀ (i : Nat) (a : Addr) (l : Str × Str), ps[i]? = some a → ls[i]? = some l → H a = some (.tup [.str l.1, .str l.2])
theorem EntAt.same {H H' : Hp} {p : Addr} {e : Ent} (h : EntAt H p e) (sm : Same H H') : EntAt H' p e := by
  cases e with
  | side n o s m pl => obtain ⟨q, a, b⟩ := h; exact ⟨q, sm _ _ a, sm _ _ b⟩
  | set n ns => obtain ⟨q, a, b⟩ := h; exact ⟨q, sm _ _ a, sm _ _ b⟩
  | log n g ls => obtain ⟨q, ps, a, b, c, d⟩ := h; exact ⟨q, ps, sm _ _ a, sm _ _ b, c, fun i x l e f => sm _ _ (d i x l e f)⟩
/-- the entries known, by name -/
def KnownAt (H : Hp) (d : Addr) (es : List Ent) : Prop := ∃ ps : List Addr, ps.length = es.length ∧ H d = some (.dK ((es.zip ps).map fun z => ((.inr z.1.name : Key), V.ref z.2))) ∧ ∀ (i : Nat) (p : Addr) (e : Ent), ps[i]? = some p → es[i]? = some e → EntAt H p e
theorem name_facts {n : Str} (h : NameP n) : 1 ≤ n.length ∧ n.length ≤ 8 ∧ inV (.str n) noN = false ∧ ∀ c ∈ n.cps.toList, c ∈ lettS.cps.toList := by
  unfold NameP tenN at h
  simp only [List.mem_cons, List.not_mem_nil, or_false] at h
  rcases h with rfl | rfl | rfl | rfl | rfl | rfl | rfl | rfl | rfl | rfl <;> exact ⟨by decide +kernel, by decide +kernel, by decide +kernel, by decide +kernel⟩
def spName : Sp := fun vs H Q _ => ∃ n : Str, vs = [.str n] ∧ NameP n ∧ ∀ H', Same H H' → Q (.bl true) H'
section
variable {P : Program} {w : World} {K : PySem.W.Frag} {mg : Str → Option Value} {base : Heap} {aN fB : Addr} {dB : FuncData}
theorem ok_is_name {f : Addr} {fd : FuncData} (F : Fun K "_is_name" "_is_name" s_is_name f fd) (T : EnT K mg aN) : FnOk P w K mg base CX0 1 f fd ["thing"] spName := by
  refine F.ok sc_is_name (fun vs H Q E h => ?_) (fun cdv A outer s H vs Q E hr h => ?_)
  · obtain ⟨n, rfl, _⟩ := h
    rfl
  · obtain ⟨n, rfl, hn, q⟩ := h
    have nd := sc_is_name.nd
    obtain ⟨tl, hl⟩ := T.lt
    obtain ⟨tm, hm⟩ := T.ml
    refine ⟨_, (pss_cons (ps_if (PW.pt (pw_or (pt_not (pt_val (pe_callB call_isi (by rfl) T.isi (by decide +kernel) (pa_cons (pv 0) (pa_cons (pe_bltn (v := .ty "str") (by rfl) T.str (by decide +kernel) rfl) pa_nil))))) (pw_or1 (pt_not (pt_chain op_le op_le pe_int (pe_callB call_len_str (by rfl) T.len PySem.boot_len (pa_cons (pv 0) pa_nil)) (pe_glob (v := .int 8) (by rfl) hm ⟨_, rfl⟩)))))) (pss_one (ps_ret pe_bl)) pss_nil)
      (pss_one (ps_ret (pe_and (pe_cmpR op_notIn_seq (pv 0) (pe_glob (v := .ref aN) (by rfl) T.gN rfl) (by rfl)) (pe_one (pe_callB (cr_all rfl) (by rfl) T.all (by decide +kernel) (pa_cons (pe_lc (own := [("letter", 1)]) (g := gName 1) (tt := tYes) rfl nd (pi_str (pv 0)) (blkOk_by (N := ["thing", "letter"]) (sc := defScope s_is_name) (by decide +kernel)) (fun _ _ _ _ _ => pg_name (i := 1) nd rfl (Or.inl rfl)) (fun _ _ _ _ _ => pts_nil) (fun _ _ _ _ _ => (pe_cmpR op_in_sign (pv 1) (pe_glob (v := .str lettS) (by rfl) hl ⟨_, rfl⟩) (by rfl)))) pa_nil))))))), ?_⟩
    obtain ⟨f1, f2, f3, f4⟩ := name_facts hn
    walk_at "rd"
    refine ⟨_, _, _, _, _, rfl, .ty "str", .base (.str n), kit_ty (r := true) (by decide +kernel), ?_⟩
    walk_at "rd"
    refine ⟨Nat.le_trans f2 (by decide), ?_⟩
    walk_at "rd"
    refine ite2 (fun _ => ?_) (fun z => absurd (decide_eq_true (show (1 : Int) ≤ (n.length : Int) by omega)) z)
    walk_at "rd"
    refine ite2 (fun z => absurd (decide_eq_true (show (n.length : Int) ≤ 8 by omega)) (not_t z)) (fun _ => ?_)
    walk_at "rd"
    refine ⟨aN, _, rfl, .inr (T.tN _), rfl, by decide, ?_⟩
    walk_at "rd"
    refine ite2 (fun _ => ?_) (fun z => absurd (by rw [f3]; rfl) z)
    walk_at "rd"
    refine fun D nD => ?_
    refine lc_it (walk_str (z := n)) (fun j H3 => H3 D = some (.lst ((List.replicate j true).map V.bl)) ∧ Same H H3) ⟨upd_same, fun b u z => (upd_ne (ne_of_none z nD)).trans z⟩ (fun _ _ _ _ => trivial) ?_ ?_
    · rintro j y H3 H4 hj ⟨hD, s3⟩ ⟨rfl, c, ec, rfl⟩
      refine ⟨rfl, ?_⟩
      walk_at "rd"
      refine ⟨_, hD, ?_, ?_, fun b u z => (upd_ne (ne_of_none z nD)).trans (s3 _ _ z)⟩
      · rw [List.length_map, List.length_replicate]
        exact Nat.lt_of_lt_of_le (Nat.lt_of_lt_of_le hj f2) (by decide)
      · rw [decide_eq_true (f4 c (Array.mem_toList_iff.mpr (Array.mem_of_getElem? ec))), List.replicate_succ', List.map_append]
        exact upd_same
    rintro H3 ⟨hD, s3⟩
    walk_at "rd"
    refine ⟨D, _, rfl, SqL.of hD, ?_⟩
    have e : (List.replicate n.cps.size true).all id = true := by rw [List.all_eq_true]; intro x hx; rw [List.eq_of_mem_replicate hx]; rfl
    rw [e]
    exact q H3 s3
end
end HT
namespace HT
open PySem L2
theorem lt1 {n c : Nat} (h : n + 64 < c) : n + 1 < c := by omega
def findE (es : List Ent) (n : Str) : Option Ent := es.find? fun e => decide (e.name = n)
def Ent.kind : Ent → Str
  | .side .. => "side"
  | .set .. => "set"
  | .log .. => "log"
theorem find_zip (n : Str) : ∀ (es : List Ent) (ps : List Addr), ps.length = es.length →
    (findE es n = none ∧ valV ((es.zip ps).map fun z => ((.inr z.1.name : Key), V.ref z.2)) (.inr n) = none) ∨
    ∃ (i : Nat) (e : Ent) (p : Addr), es[i]? = some e ∧ ps[i]? = some p ∧ findE es n = some e ∧ valV ((es.zip ps).map fun z => ((.inr z.1.name : Key), V.ref z.2)) (.inr n) = some (.ref p)
  | [], [], _ => .inl ⟨rfl, rfl⟩
  | e :: es, p :: ps, h => by
    by_cases c : e.name = n
    · refine .inr ⟨0, e, p, rfl, rfl, ?_, ?_⟩
      · unfold findE
        rw [List.find?_cons, decide_eq_true c]
      · exact valV_pos (p := ((.inr e.name : Key), V.ref p)) (by rw [c])
    · have a : findE (e :: es) n = findE es n := by
        unfold findE
        rw [List.find?_cons, decide_eq_false c]
      have b : valV (((e :: es).zip (p :: ps)).map fun z => ((.inr z.1.name : Key), V.ref z.2)) (.inr n) = valV ((es.zip ps).map fun z => ((.inr z.1.name : Key), V.ref z.2)) (.inr n) :=
        valV_neg (p := ((.inr e.name : Key), V.ref p)) fun z => c (Sum.inr.inj z)
      rw [a, b]
      rcases find_zip n es ps (by simpa using h) with z | ⟨i, x, y, z⟩
      · exact .inl z
      · exact .inr ⟨i + 1, x, y, z⟩
theorem known_some {H : Hp} {d : Addr} {es : List Ent} {n : Str} {e : Ent} (h : KnownAt H d es) (f : findE es n = some e) : ∃ p, DGet H d (.str n) (some (.ref p)) ∧ EntAt H p e := by
  obtain ⟨ps, l, hd, at_⟩ := h
  rcases find_zip n es ps l with ⟨a, _⟩ | ⟨i, x, p, a, b, c, v⟩
  · rw [a] at f; cases f
  · rw [c] at f
    cases f
    refine ⟨p, ?_, at_ i p _ b a⟩
    have g := DGet.k (k := .inr n) hd
    rwa [v] at g
theorem known_none {H : Hp} {d : Addr} {es : List Ent} {n : Str} (h : KnownAt H d es) (f : findE es n = none) : DGet H d (.str n) none := by
  obtain ⟨ps, l, hd, at_⟩ := h
  rcases find_zip n es ps l with ⟨_, v⟩ | ⟨i, x, p, a, b, c, v⟩
  · have g := DGet.k (k := .inr n) hd
    rwa [v] at g
  · rw [c] at f; cases f
theorem KnownAt.same {H H' : Hp} {d : Addr} {es : List Ent} (h : KnownAt H d es) (sm : Same H H') : KnownAt H' d es := let ⟨ps, l, hd, at_⟩ := h; ⟨ps, l, sm _ _ hd, fun i p e a b => (at_ i p e a b).same sm⟩
def spIsKn : Sp := fun vs H Q _ => ∃ (k n : Str) (d : Addr) (es : List Ent) (e : Ent), vs = [.str k, .str n, .ref d] ∧ KnownAt H d es ∧ findE es n = some e ∧ e.kind = k ∧ Q (.bl true) H
def spInSet : Sp := fun vs H Q _ => ∃ (n g g2 : Str) (d : Addr) (es : List Ent) (ns : List Str), vs = [.str n, .str g, .ref d] ∧ KnownAt H d es ∧ findE es g = some (.set g2 ns) ∧ n ∈ ns ∧ ns.length ≤ 4 ∧ Q (.bl true) H
theorem EntAt.tup {H : Hp} {p : Addr} {e : Ent} (h : EntAt H p e) : ∃ xs, H p = some (.tup (.str e.kind :: xs)) := by
  cases e with
  | side n o s m pl => obtain ⟨q, a, b⟩ := h; exact ⟨_, a⟩
  | set n ns => obtain ⟨q, a, b⟩ := h; exact ⟨_, a⟩
  | log n g ls => obtain ⟨q, ps, a, b, c, d⟩ := h; exact ⟨_, a⟩
theorem at0 {x : V} {t : List V} : atI (x :: t) 0 = some x := by
  unfold atI
  rw [ixN_in (Int.le_refl 0) (by rw [List.length_cons]; omega)]
  rfl
theorem inV_str {n : Str} {ns : List Str} (h : n ∈ ns) : inV (.str n) (ns.map V.str) = true := by
  unfold inV
  rw [List.any_eq_true]
  exact ⟨_, List.mem_map.mpr ⟨n, h, rfl⟩, by simp [eqV]⟩
section
variable {P : Program} {w : World} {K : PySem.W.Frag} {mg : Str → Option Value} {base : Heap} {aN fB : Addr} {dB : FuncData}
theorem ok_is_known {f : Addr} {fd : FuncData} (F : Fun K "is_known" "is_known" s_is_known f fd) (T : EnT K mg aN) : FnOk P w K mg base CX0 1 f fd ["kind", "name", "known"] spIsKn := by
  refine F.ok sc_is_known (fun vs H Q E h => ?_) (fun cdv A outer s H vs Q E hr h => ?_)
  · obtain ⟨k, n, d, es, e, rfl, _⟩ := h
    rfl
  · obtain ⟨k, n, d, es, e, rfl, hk, fe, ke, q⟩ := h
    have nd := sc_is_known.nd
    obtain ⟨p, g, ea⟩ := known_some hk fe
    obtain ⟨xs, hp⟩ := ea.tup
    refine ⟨_, (pss_one (ps_ret (pe_and (pe_callB call_isi (by rfl) T.isi (by decide +kernel) (pa_cons (pv 1) (pa_cons (pe_bltn (v := .ty "str") (by rfl) T.str (by decide +kernel) rfl) pa_nil))) (pe_and (pe_cmp (pc_din (lt1 hr.units) (pv 1) (pv 2)) (by rfl)) (pe_one (pe_cmpR op_eq (pe_ix ix_tup (pe_dget (lt1 hr.units) (pv 2) (pv 1) (fun _ _ => rfl)) pe_int (fun _ _ => rfl)) (pv 0) (nomark _))))))), ?_⟩
    walk_at "rd"
    refine ⟨_, _, _, _, _, rfl, .ty "str", .base (.str n), kit_ty (r := true) (by decide +kernel), ?_⟩
    walk_at "rd"
    refine ⟨d, _, rfl, g, _, rfl, ?_⟩
    refine ite2 (fun _ => ?_) (fun z => absurd rfl z)
    walk_at "rd"
    refine ⟨d, _, rfl, g, ?_⟩
    walk_at "rd"
    refine ⟨p, _, _, _, rfl, rfl, SqT.of hp, at0, ?_⟩
    walk_at "rd"
    refine ⟨rfl, ?_⟩
    rw [ke, decide_eq_true rfl]
    exact q
theorem ok_in_set {f : Addr} {fd : FuncData} (F : Fun K "is_in_set" "is_in_set" s_is_in_set f fd) : FnOk P w K mg base CX0 1 f fd ["name", "group", "known"] spInSet := by
  refine F.ok sc_is_in_set (fun vs H Q E h => ?_) (fun cdv A outer s H vs Q E hr h => ?_)
  · obtain ⟨n, g, g2, d, es, ns, rfl, _⟩ := h
    rfl
  · obtain ⟨n, g, g2, d, es, ns, rfl, hk, fe, mem, l4, q⟩ := h
    have nd := sc_is_in_set.nd
    obtain ⟨p, gg, ea⟩ := known_some hk fe
    obtain ⟨qa, hp, hq⟩ := ea
    refine ⟨_, (pss_cons (ps_asg (pe_dget (lt1 hr.units) (pv 2) (pv 1) (fun _ _ => rfl)) (pg_tup (by rfl) (pgs_cons (pg_name (i := 3) nd rfl (Or.inl rfl)) (pgs_cons (pg_name (i := 3) nd rfl (Or.inl rfl)) (pgs_cons (pg_name (i := 4) nd rfl (Or.inl rfl)) pgs_nil)))))
      (pss_one (ps_ret (pe_cmpR op_in_seq (pv 0) (pv 4) (by rfl))))), ?_⟩
    walk_at "rd"
    refine ⟨d, _, rfl, gg, ?_⟩
    refine ⟨p, _, rfl, SqT.of hp, rfl, _, _, rfl, _, _, rfl, _, _, rfl, rfl, ?_⟩
    walk_at "rd"
    refine ⟨qa, _, rfl, .inr (SqT.of hq), rfl, List.all_eq_true.mpr (fun y hy => by obtain ⟨z, _, rfl⟩ := List.mem_map.mp hy; rfl), ?_⟩
    show Q (.bl (inV (.str n) (ns.map V.str))) H
    rw [inV_str mem]
    exact q
end
end HT
namespace HT
open PySem L2 CwR
theorem op_mulS {X : Cx} : OpR X (binaryOp .Mult) (fun x y H Q => ∃ a n, x = .str a ∧ y = .int n ∧ PySem.MulOk a n ∧ Q (.str (Txt.mul a n)) H) := by
  intro pins s σ H x y v u Q I rx ry h
  obtain ⟨a, n, rfl, rfl, hm, q⟩ := h
  obtain ⟨t, rfl⟩ := rx
  obtain ⟨t2, rfl⟩ := ry
  exact PySem.SB.mul hm fun t' k => ⟨.str (Txt.mul a n), H, I.tok k, ⟨t', rfl⟩, q⟩
abbrev psT : List Str := ["figure", "places", "sign", "group", "width"]
/-- text_of, and its call -/
structure TxC (P : Program) (w : World) (K : PySem.W.Frag) (mg : Str → Option Value) (base : Heap) (f : Addr) (fd : FuncData) : Prop where
  D : FunD K "text_of" "text_of" (defArgs s_text_of) (defBody s_text_of) (defScope s_text_of) [] [("sign", .bl false), ("group", .bl false), ("width", .int 0)] f fd
  ok : FnOk P w K mg base CX0 4 f fd psT spText
  gl : mg "text_of" = some (.ref f)
  kp : PySem.W.keepIn K (.ref f) = true
section
variable {X : Cx} {j : Nat} {f : Addr} {fd : FuncData} {e : Expr} {es : List Expr} {kws : List Keyword} {t tk : TA} {p pos : Pos}
theorem pcT2 (C : TxC X.prog X.w X.K X.mg X.base f fd) (hr : Room j X.A) (hj : 4 ≤ j) (hg : Gl X "text_of") (ha : PA X (e :: es) t)
    (he : starEach (e :: es) X.env = (false, eval e X.env) :: starEach es X.env := by rfl) (hpl : (backTo pos (starEach es X.env)).any (·.1) = false := by rfl) : PE X (.Call (.Name "text_of" p) (e :: es) [] pos) (tCall spText [.bl false, .bl false, .int 0] E0 t) := by
  obtain ⟨ds, hd, hb⟩ := C.D.binds0 (ps := psT) 2 (by simp) rfl fun D doc pm an cdv ct us ks hu hk => match us, hu, ks, hk with
    | [_, _], _, [_, _, _], _ => ⟨_, _, _, _, _, _, rfl, rfl, _, _, _, _, _, _, rfl, rfl, _, _, _, _, _, _, rfl, rfl, rfl⟩
  exact pe_call C.ok (hr.mono hj) hg C.gl C.kp hb hd pass0 ha (by decide) he hpl
theorem pcT3 (C : TxC X.prog X.w X.K X.mg X.base f fd) (hr : Room j X.A) (hj : 4 ≤ j) (hg : Gl X "text_of") (ha : PA X (e :: es) t) (hkw : PK X kws tk) (hall : (backToKw pos (keywordEach kws X.env)).all (·.1.isSome) = true := by rfl) (hks : (backToKw pos (keywordEach kws X.env)).filterMap (·.1) = (["sign", "group", "width"] : List Str) := by rfl)
    (he : starEach (e :: es) X.env = (false, eval e X.env) :: starEach es X.env := by rfl) (hpl : ((backTo pos (starEach (e :: es) X.env)).any (·.1) || (backToKw pos (keywordEach kws X.env)).any (·.1.isNone)) = false := by rfl) :
    PE X (.Call (.Name "text_of" p) (e :: es) kws pos) (tCallN 2 3 spText (fun vs zs => vs ++ zs) E0 t tk) := by
  obtain ⟨mv, hb⟩ := C.D.kbinds0 (ps := psT) 2 ["sign", "group", "width"] [] (fun a _ z => a ++ z) (by simp) (fun _ h => by cases h) (fun a _ c => a.append c) fun D doc pm an cdv ct us mv ws hu hm hw => match us, hu, mv, hm, ws, hw with
    | [_, _], _, [], _, [_, _, _], _ => rfl
  exact pe_callN C.ok (hr.mono hj) hg C.gl C.kp hb pass0 ha hkw hall hks (by decide) he hpl
theorem pcT1 (C : TxC X.prog X.w X.K X.mg X.base f fd) (hr : Room j X.A) (hj : 4 ≤ j) (hg : Gl X "text_of") (ha : PA X (e :: es) t) (hkw : PK X kws tk) (hall : (backToKw pos (keywordEach kws X.env)).all (·.1.isSome) = true := by rfl) (hks : (backToKw pos (keywordEach kws X.env)).filterMap (·.1) = (["sign"] : List Str) := by rfl)
    (he : starEach (e :: es) X.env = (false, eval e X.env) :: starEach es X.env := by rfl) (hpl : ((backTo pos (starEach (e :: es) X.env)).any (·.1) || (backToKw pos (keywordEach kws X.env)).any (·.1.isNone)) = false := by rfl) :
    PE X (.Call (.Name "text_of" p) (e :: es) kws pos) (tCallN 2 1 spText (fun vs zs => vs ++ zs ++ [.bl false, .int 0]) E0 t tk) := by
  obtain ⟨mv, hb⟩ := C.D.kbinds0 (ps := psT) 2 ["sign"] [("group", .bl false), ("width", .int 0)] (fun a m z => a ++ z ++ m) (by simp) (fun q h => List.mem_cons_of_mem _ h) (fun a b c => (a.append c).append b) fun D doc pm an cdv ct us mv ws hu hm hw => match us, hu, mv, hm, ws, hw with
    | [_, _], _, [_, _], _, [_], _ => ⟨_, _, _, _, _, _, rfl, rfl, _, _, _, _, _, _, rfl, rfl, rfl⟩
  exact pe_callN C.ok (hr.mono hj) hg C.gl C.kp hb pass0 ha hkw hall hks (by decide) he hpl
end
end HT
namespace HT
open PySem L2
theorem all_rep (N : Nat) : (List.replicate N true).all id = true := by rw [List.all_eq_true]; intro x hx; rw [List.eq_of_mem_replicate hx]; rfl
theorem at_nat {xs : List V} {k : Nat} {y : V} (h : xs[k]? = some y) : atI xs (k : Int) = some y := by
  have hk : k < xs.length := (List.getElem?_eq_some_iff.mp h).1
  unfold atI
  rw [ixN_in (by omega) (by omega), Int.toNat_natCast]
  exact h
def EntOk (es : List Ent) : Ent → Prop
  | .side n o s m pl => NameP n ∧ findE es n = none ∧ SideP o s m ∧ pl ≤ 60
  | .set n ns => NameP n ∧ findE es n = none ∧ 1 ≤ ns.length ∧ ns.length ≤ 4 ∧ ∀ x ∈ ns, NameP x ∧ ∃ o s m pl, findE es x = some (.side x o s m pl)
  | .log n g ls => NameP n ∧ findE es n = none ∧ (∃ ns, ns.length ≤ 4 ∧ NameP g ∧ findE es g = some (.set g ns) ∧ ∀ l ∈ ls, l.1 ∈ ns) ∧ ls.length ≤ 50 ∧ ∀ l ∈ ls, NameP l.1 ∧ ∃ o s m pl fig, findE es l.1 = some (.side l.1 o s m pl) ∧ -10 ^ 62 < fig ∧ fig < 10 ^ 62 ∧ pl ≤ 60 ∧ l.2 = textM fig pl false false 0
def spTxFits : Sp := fun vs H Q _ => ∃ (n z : Str) (d : Addr) (es : List Ent) (o s : Int) (m : Str) (pl : Nat) (fig : Int), vs = [.str n, .str z, .ref d] ∧ KnownAt H d es ∧ findE es n = some (.side n o s m pl) ∧ -10 ^ 62 < fig ∧ fig < 10 ^ 62 ∧ pl ≤ 60 ∧ z = textM fig pl false false 0 ∧ ∀ H', Same H H' → Q (.bl true) H'
def spFits : Sp := fun vs H Q _ => ∃ (p d : Addr) (e : Ent) (es : List Ent), vs = [.ref p, .ref d] ∧ EntAt H p e ∧ EntOk es e ∧ KnownAt H d es ∧ ∀ H', Same H H' → Q (.bl true) H'
section
variable {P : Program} {w : World} {K : PySem.W.Frag} {mg : Str → Option Value} {base : Heap} {aN f1 f2 f3 f4 f5 : Addr} {d1 d2 d3 d4 d5 : FuncData}
theorem ok_text_fits {f : Addr} {fd : FuncData} (F : Fun K "text_fits" "text_fits" s_text_fits f fd) (Tx : TxC P w K mg base f1 d1) (Rd : Cal P w K mg base "read_text" 4 ["text"] spRead f2 d2) : FnOk P w K mg base CX0 5 f fd ["name", "text", "known"] spTxFits := by
  refine F.ok sc_text_fits (fun vs H Q E h => ?_) (fun cdv A outer s0 H vs Q E hr h => ?_)
  · obtain ⟨n, z, d, es, o, s, m, pl, fig, rfl, _⟩ := h
    rfl
  · obtain ⟨n, z, d, es, o, s, m, pl, fig, rfl, hk, fe, g0, g1, p1, rfl, q⟩ := h
    have nd := sc_text_fits.nd
    obtain ⟨p, g, qa, hp, hq⟩ := known_some hk fe
    refine ⟨_, pss_cons (ps_asg (pe_dget (lt1 hr.units) (pv 2) (pv 0) (fun _ _ => rfl)) (pg_tup (by rfl) (pgs_cons (pg_name (i := 3) nd rfl (Or.inl rfl)) (pgs_cons (pg_name (i := 3) nd rfl (Or.inl rfl)) (pgs_cons (pg_name (i := 3) nd rfl (Or.inl rfl)) (pgs_cons (pg_name (i := 4) nd rfl (Or.inl rfl)) pgs_nil))))))
      (pss_cons (ps_try_thru0 (pss_one (ps_asg (pcl Rd hr (by decide) (by rfl) (pa_cons (pv 1) pa_nil)) (pg_tup (by rfl) (pgs_cons (pg_name (i := 5) nd rfl (Or.inl rfl)) (pgs_cons (pg_name (i := 3) nd rfl (Or.inl rfl)) pgs_nil))))))
      (pss_one (ps_ret (pe_cmpR op_eq (pcT2 Tx hr (by decide) (by rfl) (pa_cons (pv 5) (pa_cons (pv 4) pa_nil))) (pv 1) (nomark _))))), ?_⟩
    walk_at "rd"
    refine ⟨d, _, rfl, g, ?_⟩
    refine ⟨p, _, rfl, SqT.of hp, rfl, _, _, rfl, _, _, rfl, _, _, rfl, _, _, rfl, rfl, ?_⟩
    walk_at "rd"
    obtain ⟨kk, c, pp, ee, c0, n', RO, rf, mx⟩ := text_reads (sg := false) (gr := false) (wd := 0) g0 g1 p1 (by decide) (by decide)
    refine ⟨_, kk, c, n', pp, ee, c0, rfl, RO, fun q1 H1 s1 hq1 => ?_⟩
    rw [rf] at hq1
    refine ⟨q1, _, rfl, SqT.of hq1, rfl, _, _, rfl, _, _, rfl, rfl, ?_⟩
    walk_at "rd"
    refine ⟨fig, pl, false, false, 0, rfl, g0, g1, p1, by decide, by decide, fun H2 s2 => ?_⟩
    walk_at "rd"
    refine ⟨rfl, ?_⟩
    rw [decide_eq_true rfl]
    exact q _ (s1.trans s2)
theorem ok_names_fit {f : Addr} {fd : FuncData} (F : Fun K "names_fit" "names_fit" s_names_fit f fd) (T : EnT K mg aN) (Nm : Cal P w K mg base "_is_name" 1 ["thing"] spName f1 d1) (Kn : Cal P w K mg base "is_known" 1 ["kind", "name", "known"] spIsKn f2 d2) (Is : Cal P w K mg base "is_in_set" 1 ["name", "group", "known"] spInSet f3 d3) : FnOk P w K mg base CX0 2 f fd ["entry", "known"] spFits := by
  refine F.ok sc_names_fit (fun vs H Q E h => ?_) (fun cdv A outer s0 H vs Q E hr h => ?_)
  · obtain ⟨p, d, e, es, rfl, _⟩ := h
    rfl
  · obtain ⟨p, d, e, es, rfl, ea, ok, hk, q⟩ := h
    have nd := sc_names_fit.nd
    refine ⟨_, (pss_cons (ps_if (PW.pt (pw_or (pt_not (pt_val (pcl Nm hr (by decide) (by rfl) (pa_cons (pe_ix ix_tup (pv 0) pe_int (fun _ _ => rfl)) pa_nil)))) (pw_or1 (pt_cmp (pc_din (lt1 hr.units) (pe_ix ix_tup (pv 0) pe_int (fun _ _ => rfl)) (pv 1)) (by rfl))))) (pss_one (ps_ret pe_bl)) pss_nil)
      (pss_cons (ps_if (pt_cmpR op_eq (pe_ix ix_tup (pv 0) pe_int (fun _ _ => rfl)) pe_str (nomark _)) (pss_one (ps_ret (pe_callB (cr_all rfl) (by rfl) T.all (by decide +kernel) (pa_cons (pe_lc (own := [("name", 2)]) (g := gName 2) (tt := tYes) rfl nd (pi_tup (pe_ix ix_tup (pv 0) pe_int (fun _ _ => rfl))) (blkOk_by (N := ["entry", "known", "name", "_"]) (sc := defScope s_names_fit) (by decide +kernel)) (fun _ _ _ _ _ => pg_name (i := 2) nd rfl (Or.inl rfl)) (fun _ _ _ _ _ => pts_nil) (fun _ _ _ _ _ => (pcl Kn hr (by decide) (by rfl) (pa_cons pe_str (pa_cons (pv 2) (pa_cons (pv 1) pa_nil)))))) pa_nil)))) pss_nil)
      (pss_cons (ps_if (pt_cmpR op_eq (pe_ix ix_tup (pv 0) pe_int (fun _ _ => rfl)) pe_str (nomark _)) (pss_one (ps_ret (pe_and (pcl Kn hr (by decide) (by rfl) (pa_cons pe_str (pa_cons (pe_ix ix_tup (pv 0) pe_int (fun _ _ => rfl)) (pa_cons (pv 1) pa_nil)))) (pe_one (pe_callB (cr_all rfl) (by rfl) T.all (by decide +kernel) (pa_cons (pe_lc (own := [("name", 2), ("_", 3)]) (g := (gTup K 2 (gCons (gName 2) (gCons (gName 3) gNil)))) (tt := tYes) rfl nd (pi_tup (pe_ix ix_tup (pv 0) pe_int (fun _ _ => rfl))) (blkOk_by (N := ["entry", "known", "name", "_"]) (sc := defScope s_names_fit) (by decide +kernel)) (fun _ _ _ _ _ => pg_tup (by rfl) (pgs_cons (pg_name (i := 2) nd rfl (Or.inl rfl)) (pgs_cons (pg_name (i := 3) nd rfl (Or.inl rfl)) pgs_nil))) (fun _ _ _ _ _ => pts_nil) (fun _ _ _ _ _ => (pcl Is hr (by decide) (by rfl) (pa_cons (pv 2) (pa_cons (pe_ix (r := rIxT K) (by exact ix_tup) (pv 0) pe_int (fun _ _ => rfl)) (pa_cons (pv 1) pa_nil)))))) pa_nil)))))) pss_nil)
      (pss_one (ps_ret pe_bl))))), ?_⟩
    walk_at "rd"
    cases e with
    | side n o s m pl =>
      obtain ⟨hn, fr, sp, p60⟩ := ok
      obtain ⟨qa, hp, hq⟩ := ea
      refine ⟨p, _, _, _, rfl, rfl, SqT.of hp, at_nat (k := 1) rfl, ?_⟩
      walk_at "rd"
      refine ⟨hn, fun H1 s1 => ?_⟩
      have hp1 := s1 _ _ hp
      have hk1 := hk.same s1
      refine ⟨_, rfl, ?_⟩
      refine ite2 (fun z => absurd z (by decide)) (fun _ => ?_)
      walk_at "rd"
      refine ⟨p, _, _, _, rfl, rfl, SqT.of hp1, at_nat (k := 1) rfl, ?_⟩
      walk_at "rd"
      refine ⟨d, _, rfl, known_none hk1 fr, ?_⟩
      refine ⟨_, rfl, ?_⟩
      refine ite2 (fun z => absurd z (by decide)) (fun _ => ?_)
      walk_at "rd"
      refine ⟨p, _, _, _, rfl, rfl, SqT.of hp1, at0, ?_⟩
      walk_at "rd"
      refine ⟨rfl, _, rfl, ?_⟩
      refine ite2 (fun z => absurd z (by decide +kernel)) (fun _ => ?_)
      walk_at "rd"
      refine ⟨p, _, _, _, rfl, rfl, SqT.of hp1, at0, ?_⟩
      walk_at "rd"
      refine ⟨rfl, _, rfl, ?_⟩
      refine ite2 (fun z => absurd z (by decide +kernel)) (fun _ => ?_)
      walk_at "rd"
      exact q H1 s1
    | set n ns =>
      obtain ⟨hn, fr, n1, n4, al⟩ := ok
      obtain ⟨qa, hp, hq⟩ := ea
      refine ⟨p, _, _, _, rfl, rfl, SqT.of hp, at_nat (k := 1) rfl, ?_⟩
      walk_at "rd"
      refine ⟨hn, fun H1 s1 => ?_⟩
      have hp1 := s1 _ _ hp
      have hk1 := hk.same s1
      refine ⟨_, rfl, ?_⟩
      refine ite2 (fun z => absurd z (by decide)) (fun _ => ?_)
      walk_at "rd"
      refine ⟨p, _, _, _, rfl, rfl, SqT.of hp1, at_nat (k := 1) rfl, ?_⟩
      walk_at "rd"
      refine ⟨d, _, rfl, known_none hk1 fr, ?_⟩
      refine ⟨_, rfl, ?_⟩
      refine ite2 (fun z => absurd z (by decide)) (fun _ => ?_)
      walk_at "rd"
      refine ⟨p, _, _, _, rfl, rfl, SqT.of hp1, at0, ?_⟩
      walk_at "rd"
      refine ⟨rfl, _, rfl, ?_⟩
      refine ite2 (fun _ => ?_) (fun z => absurd (decide_eq_true rfl) z)
      walk_at "rd"
      refine ⟨p, _, _, _, rfl, rfl, SqT.of hp1, at_nat (k := 2) rfl, ?_⟩
      have hq1 := s1 _ _ hq
      refine ⟨qa, rfl, ⟨_, SqT.of hq1⟩, fun D nD => ?_⟩
      refine lc_it (walk_tup (K := K) (a := qa) (xs := ns.map V.str)) (fun j H3 => H3 D = some (.lst ((List.replicate j true).map V.bl)) ∧ Same H1 H3) ⟨upd_same, fun b u z => (upd_ne (ne_of_none z nD)).trans z⟩ (fun _ _ _ ⟨_, s3⟩ => SqT.of (s3 _ _ hq1)) ?_ ?_
      · rintro j y H3 H4 hj ⟨hD, s3⟩ ⟨rfl, ey⟩
        rw [List.getElem?_map] at ey
        obtain ⟨x, ex, rfl⟩ := Option.map_eq_some_iff.mp ey
        obtain ⟨_, o, s, m, pl, fe⟩ := al x (List.mem_of_getElem? ex)
        refine ⟨rfl, ?_⟩
        walk_at "rd"
        refine ⟨_, x, d, es, _, rfl, hk1.same s3, fe, rfl, ?_⟩
        refine ⟨_, hD, ?_, ?_, fun b u z => (upd_ne (ne_of_none z nD)).trans (s3 _ _ z)⟩
        · rw [List.length_map, List.length_replicate]
          rw [List.length_map] at hj
          exact Nat.lt_of_lt_of_le (Nat.lt_of_lt_of_le hj n4) (by decide)
        · rw [List.replicate_succ', List.map_append]
          exact upd_same
      rintro H3 ⟨hD, s3⟩
      walk_at "rd"
      refine ⟨D, _, rfl, SqL.of hD, ?_⟩
      walk_at "rd"
      rw [all_rep]
      exact q H3 (s1.trans s3)
    | log n g ls =>
      obtain ⟨hn, fr, ⟨ns, n4, _, fg, al⟩, l50, _⟩ := ok
      obtain ⟨qa, ps, hp, hq, lp, ap⟩ := ea
      refine ⟨p, _, _, _, rfl, rfl, SqT.of hp, at_nat (k := 1) rfl, ?_⟩
      walk_at "rd"
      refine ⟨hn, fun H1 s1 => ?_⟩
      have hp1 := s1 _ _ hp
      have hk1 := hk.same s1
      refine ⟨_, rfl, ?_⟩
      refine ite2 (fun z => absurd z (by decide)) (fun _ => ?_)
      walk_at "rd"
      refine ⟨p, _, _, _, rfl, rfl, SqT.of hp1, at_nat (k := 1) rfl, ?_⟩
      walk_at "rd"
      refine ⟨d, _, rfl, known_none hk1 fr, ?_⟩
      refine ⟨_, rfl, ?_⟩
      refine ite2 (fun z => absurd z (by decide)) (fun _ => ?_)
      walk_at "rd"
      refine ⟨p, _, _, _, rfl, rfl, SqT.of hp1, at0, ?_⟩
      walk_at "rd"
      refine ⟨rfl, _, rfl, ?_⟩
      refine ite2 (fun z => absurd z (by decide +kernel)) (fun _ => ?_)
      walk_at "rd"
      refine ⟨p, _, _, _, rfl, rfl, SqT.of hp1, at0, ?_⟩
      walk_at "rd"
      refine ⟨rfl, _, rfl, ?_⟩
      refine ite2 (fun _ => ?_) (fun z => absurd (decide_eq_true rfl) z)
      walk_at "rd"
      refine ⟨p, _, _, _, rfl, rfl, SqT.of hp1, at_nat (k := 2) rfl, ?_⟩
      walk_at "rd"
      refine ⟨_, g, d, es, _, rfl, hk1, fg, rfl, ?_⟩
      refine ⟨_, rfl, ?_⟩
      refine ite2 (fun _ => ?_) (fun z => absurd rfl z)
      walk_at "rd"
      refine ⟨p, _, _, _, rfl, rfl, SqT.of hp1, at_nat (k := 3) rfl, ?_⟩
      have hq1 := s1 _ _ hq
      refine ⟨qa, rfl, ⟨_, SqT.of hq1⟩, fun D nD => ?_⟩
      refine lc_it (walk_tup (K := K) (a := qa) (xs := ps.map V.ref)) (fun j H3 => H3 D = some (.lst ((List.replicate j true).map V.bl)) ∧ Same H1 H3) ⟨upd_same, fun b u z => (upd_ne (ne_of_none z nD)).trans z⟩ (fun _ _ _ ⟨_, s3⟩ => SqT.of (s3 _ _ hq1)) ?_ ?_
      · rintro j y H3 H4 hj ⟨hD, s3⟩ ⟨rfl, ey⟩
        rw [List.getElem?_map] at ey
        obtain ⟨x, ex, rfl⟩ := Option.map_eq_some_iff.mp ey
        rw [List.length_map] at hj
        obtain ⟨li, el⟩ : ∃ li, ls[j]? = some li := ⟨_, List.getElem?_eq_getElem (by omega)⟩
        have hx := s3 _ _ (s1 _ _ (ap j x li ex el))
        refine ⟨x, _, rfl, SqT.of hx, rfl, _, _, rfl, _, _, rfl, rfl, ?_⟩
        refine ⟨rfl, ?_⟩
        walk_at "rd"
        refine ⟨p, _, _, _, rfl, rfl, SqT.of (s3 _ _ hp1), at_nat (k := 2) rfl, ?_⟩
        walk_at "rd"
        refine ⟨li.1, g, g, d, es, ns, rfl, hk1.same s3, fg, al li (List.mem_of_getElem? el), n4, ?_⟩
        refine ⟨_, hD, ?_, ?_, fun b u z => (upd_ne (ne_of_none z nD)).trans (s3 _ _ z)⟩
        · rw [List.length_map, List.length_replicate]
          exact Nat.lt_of_lt_of_le (by omega : j < 51) (by decide)
        · rw [List.replicate_succ', List.map_append]
          exact upd_same
      rintro H3 ⟨hD, s3⟩
      walk_at "rd"
      refine ⟨D, _, rfl, SqL.of hD, ?_⟩
      walk_at "rd"
      rw [all_rep]
      exact q H3 (s1.trans s3)
end
end HT
namespace HT
open PySem L2
def spIsSide : Sp := fun vs H Q _ => ∃ (p : Addr) (o s : Int) (m : Str), vs = [.ref p] ∧ H p = some (sideV o s m) ∧ SideP o s m ∧ Q (.bl true) H
section
variable {P : Program} {w : World} {K : PySem.W.Frag} {mg : Str → Option Value} {base : Heap} {aN f1 f2 f3 f4 f5 : Addr} {d1 d2 d3 d4 d5 : FuncData}
theorem ok_is_side {f : Addr} {fd : FuncData} (F : Fun K "is_side" "is_side" s_is_side f fd) (Ck : Cal P w K mg base "check_side" 3 ["side"] spCheckSide f1 d1) : FnOk P w K mg base CX0 4 f fd ["thing"] spIsSide := by
  refine F.ok sc_is_side (fun vs H Q E h => ?_) (fun cdv A outer s0 H vs Q E hr h => ?_)
  · obtain ⟨p, o, s, m, rfl, _⟩ := h
    rfl
  · obtain ⟨p, o, s, m, rfl, hp, sp, q⟩ := h
    refine ⟨_, pss_cons (ps_try_thru0 (pss_one (ps_expr (pcl Ck hr (by decide) (by rfl) (pa_cons (pv 0) pa_nil))))) (pss_one (ps_ret pe_bl)), ?_⟩
    walk_at "rd"
    refine ⟨p, o, s, m, rfl, hp, sp, ?_⟩
    walk_at "rd"
    exact q
theorem ok_worths {f : Addr} {fd : FuncData} (F : Fun K "worths_fit" "worths_fit" s_worths_fit f fd) (T : EnT K mg aN) (Sd : Cal P w K mg base "is_side" 4 ["thing"] spIsSide f1 d1) (Bt : Cal P w K mg base "is_int_between" 2 ["thing", "least", "most"] spBetween f2 d2) (Tf : Cal P w K mg base "text_fits" 5 ["name", "text", "known"] spTxFits f3 d3) : FnOk P w K mg base CX0 6 f fd ["entry", "known"] spFits := by
  refine F.ok sc_worths_fit (fun vs H Q E h => ?_) (fun cdv A outer s0 H vs Q E hr h => ?_)
  · obtain ⟨p, d, e, es, rfl, _⟩ := h
    rfl
  · obtain ⟨p, d, e, es, rfl, ea, ok, hk, q⟩ := h
    have nd := sc_worths_fit.nd
    obtain ⟨tms, hms⟩ := T.ms
    obtain ⟨tmp, hmp⟩ := T.mp
    obtain ⟨tsn, hsn⟩ := T.sn
    refine ⟨_, (pss_cons (ps_if (pt_cmpR op_eq (pe_ix ix_tup (pv 0) pe_int (fun _ _ => rfl)) pe_str (nomark _)) (pss_one (ps_ret (pe_and (pcl Sd hr (by decide) (by rfl) (pa_cons (pe_ix ix_tup (pv 0) pe_int (fun _ _ => rfl)) pa_nil)) (pe_one (pcl Bt hr (by decide) (by rfl) (pa_cons (pe_ix ix_tup (pv 0) pe_int (fun _ _ => rfl)) (pa_cons pe_int (pa_cons (pe_glob (v := .int 60) (by rfl) hmp ⟨_, rfl⟩) pa_nil)))))))) pss_nil)
      (pss_cons (ps_if (pt_cmpR op_eq (pe_ix ix_tup (pv 0) pe_int (fun _ _ => rfl)) pe_str (nomark _)) (pss_one (ps_ret (pe_chain op_le op_le pe_int (pe_callB call_len_seq (by rfl) T.len PySem.boot_len (pa_cons (pe_ix ix_tup (pv 0) pe_int (fun _ _ => rfl)) pa_nil)) (pe_glob (v := .int 4) (by rfl) hms ⟨_, rfl⟩)))) pss_nil)
      (pss_one (ps_ret (pe_and (pe_cmpR op_le (pe_callB call_len_seq (by rfl) T.len PySem.boot_len (pa_cons (pe_ix ix_tup (pv 0) pe_int (fun _ _ => rfl)) pa_nil)) (pe_glob (v := .int 50) (by rfl) hsn ⟨_, rfl⟩) (nomark _)) (pe_one (pe_callB (cr_all rfl) (by rfl) T.all (by decide +kernel) (pa_cons (pe_lc (own := [("name", 2), ("text", 3)]) (g := (gTup K 2 (gCons (gName 2) (gCons (gName 3) gNil)))) (tt := tYes) rfl nd (pi_tup (pe_ix ix_tup (pv 0) pe_int (fun _ _ => rfl))) (blkOk_by (N := ["entry", "known", "name", "text"]) (sc := defScope s_worths_fit) (by decide +kernel)) (fun _ _ _ _ _ => pg_tup (by rfl) (pgs_cons (pg_name (i := 2) nd rfl (Or.inl rfl)) (pgs_cons (pg_name (i := 3) nd rfl (Or.inl rfl)) pgs_nil))) (fun _ _ _ _ _ => pts_nil) (fun _ _ _ _ _ => (pcl Tf hr (by decide) (by rfl) (pa_cons (pv 2) (pa_cons (pv 3) (pa_cons (pv 1) pa_nil)))))) pa_nil)))))))), ?_⟩
    walk_at "rd"
    cases e with
    | side n o s m pl =>
      obtain ⟨hn, fr, sp, p60⟩ := ok
      obtain ⟨qa, hp, hq⟩ := ea
      refine ⟨p, _, _, _, rfl, rfl, SqT.of hp, at0, ?_⟩
      walk_at "rd"
      refine ⟨rfl, _, rfl, ?_⟩
      refine ite2 (fun _ => ?_) (fun z => absurd (decide_eq_true rfl) z)
      walk_at "rd"
      refine ⟨p, _, _, _, rfl, rfl, SqT.of hp, at_nat (k := 2) rfl, ?_⟩
      walk_at "rd"
      refine ⟨qa, o, s, m, rfl, hq, sp, ?_⟩
      refine ⟨_, rfl, ?_⟩
      refine ite2 (fun _ => ?_) (fun z => absurd rfl z)
      walk_at "rd"
      refine ⟨p, _, _, _, rfl, rfl, SqT.of hp, at_nat (k := 3) rfl, ?_⟩
      walk_at "rd"
      refine ⟨_, _, _, rfl, ?_⟩
      rw [decide_eq_true (show (0 : Int) ≤ (pl : Int) by omega), decide_eq_true (show (pl : Int) ≤ 60 by omega)]
      exact q H (Same.refl H)
    | set n ns =>
      obtain ⟨hn, fr, n1, n4, al⟩ := ok
      obtain ⟨qa, hp, hq⟩ := ea
      refine ⟨p, _, _, _, rfl, rfl, SqT.of hp, at0, ?_⟩
      walk_at "rd"
      refine ⟨rfl, _, rfl, ?_⟩
      refine ite2 (fun z => absurd z (by decide +kernel)) (fun _ => ?_)
      walk_at "rd"
      refine ⟨p, _, _, _, rfl, rfl, SqT.of hp, at0, ?_⟩
      walk_at "rd"
      refine ⟨rfl, _, rfl, ?_⟩
      refine ite2 (fun _ => ?_) (fun z => absurd (decide_eq_true rfl) z)
      walk_at "rd"
      refine ⟨p, _, _, _, rfl, rfl, SqT.of hp, at_nat (k := 2) rfl, ?_⟩
      walk_at "rd"
      refine ⟨qa, _, rfl, .inr (SqT.of hq), ?_⟩
      rw [List.length_map]
      walk_at "rd"
      refine ite2 (fun _ => ?_) (fun z => absurd (decide_eq_true (show (1 : Int) ≤ (ns.length : Int) by omega)) z)
      walk_at "rd"
      show Q (.bl (decide ((ns.length : Int) ≤ 4))) H
      rw [decide_eq_true (show (ns.length : Int) ≤ 4 by omega)]
      exact q H (Same.refl H)
    | log n g ls =>
      obtain ⟨hn, fr, _, l50, al⟩ := ok
      obtain ⟨qa, ps, hp, hq, lp, ap⟩ := ea
      refine ⟨p, _, _, _, rfl, rfl, SqT.of hp, at0, ?_⟩
      walk_at "rd"
      refine ⟨rfl, _, rfl, ?_⟩
      refine ite2 (fun z => absurd z (by decide +kernel)) (fun _ => ?_)
      walk_at "rd"
      refine ⟨p, _, _, _, rfl, rfl, SqT.of hp, at0, ?_⟩
      walk_at "rd"
      refine ⟨rfl, _, rfl, ?_⟩
      refine ite2 (fun z => absurd z (by decide +kernel)) (fun _ => ?_)
      walk_at "rd"
      refine ⟨p, _, _, _, rfl, rfl, SqT.of hp, at_nat (k := 3) rfl, ?_⟩
      walk_at "rd"
      refine ⟨qa, _, rfl, .inr (SqT.of hq), ?_⟩
      rw [List.length_map]
      walk_at "rd"
      refine ite2 (fun _ => ?_) (fun z => absurd (decide_eq_true (show (ps.length : Int) ≤ 50 by omega)) z)
      walk_at "rd"
      refine ⟨p, _, _, _, rfl, rfl, SqT.of hp, at_nat (k := 3) rfl, ?_⟩
      refine ⟨qa, rfl, ⟨_, SqT.of hq⟩, fun D nD => ?_⟩
      refine lc_it (walk_tup (K := K) (a := qa) (xs := ps.map V.ref)) (fun j H3 => H3 D = some (.lst ((List.replicate j true).map V.bl)) ∧ Same H H3) ⟨upd_same, fun b u z => (upd_ne (ne_of_none z nD)).trans z⟩ (fun _ _ _ ⟨_, s3⟩ => SqT.of (s3 _ _ hq)) ?_ ?_
      · rintro j y H3 H4 hj ⟨hD, s3⟩ ⟨rfl, ey⟩
        rw [List.getElem?_map] at ey
        obtain ⟨x, ex, rfl⟩ := Option.map_eq_some_iff.mp ey
        rw [List.length_map] at hj
        obtain ⟨li, el⟩ : ∃ li, ls[j]? = some li := ⟨_, List.getElem?_eq_getElem (by omega)⟩
        have hx := s3 _ _ (ap j x li ex el)
        obtain ⟨_, o, s, m, pl, fig, fe, g0, g1, p60, tx⟩ := al li (List.mem_of_getElem? el)
        refine ⟨x, _, rfl, SqT.of hx, rfl, _, _, rfl, _, _, rfl, rfl, ?_⟩
        refine ⟨rfl, ?_⟩
        walk_at "rd"
        refine ⟨li.1, li.2, d, es, o, s, m, pl, fig, rfl, hk.same s3, fe, g0, g1, p60, tx, fun H5 s5 => ?_⟩
        refine ⟨_, s5 _ _ hD, ?_, ?_, fun b u z => (upd_ne (ne_of_none z nD)).trans (s5 _ _ (s3 _ _ z))⟩
        · rw [List.length_map, List.length_replicate]
          exact Nat.lt_of_lt_of_le (by omega : j < 51) (by decide)
        · rw [List.replicate_succ', List.map_append]
          exact upd_same
      rintro H3 ⟨hD, s3⟩
      walk_at "rd"
      refine ⟨D, _, rfl, SqL.of hD, ?_⟩
      walk_at "rd"
      rw [all_rep]
      exact q H3 s3
end
end HT
namespace HT
open PySem L2
def rLenK (K : PySem.W.Frag) : List V → Hp → VK → Prop := fun xs H Q => ∃ p ys, xs = [V.ref p] ∧ (SqL K H p ys ∨ SqT K H p ys) ∧ Q (V.int (ys.length : Nat)) H
def spLines : Sp := fun vs H Q _ => ∃ (q : Addr) (ps : List Addr) (ls : List (Str × Str)), vs = [.ref q] ∧ H q = some (.tup (ps.map V.ref)) ∧ ps.length = ls.length ∧ ls.length ≤ 50 ∧ (∀ (i : Nat) (a : Addr) (l : Str × Str), ps[i]? = some a → ls[i]? = some l → H a = some (.tup [.str l.1, .str l.2])) ∧ ∀ H', Same H H' → Q (.bl true) H'
def spFormed : Sp := fun vs H Q _ => ∃ (p : Addr) (e : Ent) (es : List Ent), vs = [.ref p] ∧ EntAt H p e ∧ EntOk es e ∧ ∀ H', Same H H' → Q (.bl true) H'
def EntsAt (H : Hp) (l : Addr) (es : List Ent) : Prop := ∃ ps : List Addr, ps.length = es.length ∧ H l = some (.lst (ps.map V.ref)) ∧ ∀ (i : Nat) (p : Addr) (e : Ent), ps[i]? = some p → es[i]? = some e → EntAt H p e
theorem EntsAt.same {H H' : Hp} {d : Addr} {es : List Ent} (h : EntsAt H d es) (sm : Same H H') : EntsAt H' d es := let ⟨ps, l, hd, at_⟩ := h; ⟨ps, l, sm _ _ hd, fun i p e a b => (at_ i p e a b).same sm⟩
def AllOk (es : List Ent) : Prop := ∀ (i : Nat) (e : Ent), es[i]? = some e → EntOk (es.take i) e
def spKnE : Sp := fun vs H Q _ => ∃ (l : Addr) (es : List Ent), vs = [.ref l] ∧ EntsAt H l es ∧ AllOk es ∧ es.length ≤ 1000 ∧ ∀ (d : Addr) (H' : Hp), Same H H' → KnownAt H' d es → Q (.ref d) H'
theorem EntOk.fresh {es : List Ent} {e : Ent} (h : EntOk es e) : NameP e.name ∧ findE es e.name = none := by
  cases e <;> exact ⟨h.1, h.2.1⟩
abbrev zipK (es : List Ent) (ps : List Addr) : List (Key × V) := (es.zip ps).map fun z => ((.inr z.1.name : Key), V.ref z.2)
theorem put_fresh {es : List Ent} {ps : List Addr} (l : ps.length = es.length) {n : Str} (f : findE es n = none) (v : V) : putK (zipK es ps) (.inr n) v = zipK es ps ++ [(.inr n, v)] := by
  unfold putK
  have a : ((zipK es ps).any fun kv => decide (kv.1 = (.inr n : Key))) = false := by
    rw [valV_any]
    rcases find_zip n es ps l with ⟨_, b⟩ | ⟨_, _, _, _, _, b, _⟩
    · rw [b]; rfl
    · rw [b] at f; cases f
  rw [if_neg (by rw [a]; decide)]
theorem zip_take {es : List Ent} {ps : List Addr} (l : ps.length = es.length) {i : Nat} {e : Ent} {p : Addr} (a : es[i]? = some e) (b : ps[i]? = some p) : zipK (es.take (i + 1)) (ps.take (i + 1)) = zipK (es.take i) (ps.take i) ++ [(.inr e.name, .ref p)] := by
  show List.map _ _ = List.map _ _ ++ _
  rw [List.take_succ, List.take_succ, a, b, List.zip_append (by rw [List.length_take, List.length_take, l]), List.map_append]
  rfl
section
variable {P : Program} {w : World} {K : PySem.W.Frag} {mg : Str → Option Value} {base : Heap} {aN f1 f2 f3 f4 f5 : Addr} {d1 d2 d3 d4 d5 : FuncData}
theorem ok_are_lines {f : Addr} {fd : FuncData} (F : Fun K "_are_lines" "_are_lines" s_are_lines f fd) (T : EnT K mg aN) : FnOk P w K mg base CX0 1 f fd ["thing"] spLines := by
  refine F.ok sc_are_lines (fun vs H Q E h => ?_) (fun cdv A outer s0 H vs Q E hr h => ?_)
  · obtain ⟨q, ps, ls, rfl, _⟩ := h
    rfl
  · obtain ⟨qa, ps, ls, rfl, hq, lp, l50, ap, q⟩ := h
    have nd := sc_are_lines.nd
    refine ⟨_, (pss_one (ps_ret (pe_and (pe_callB call_isi (by rfl) T.isi (by decide +kernel) (pa_cons (pv 0) (pa_cons (pe_bltn (v := .ty "tuple") (by rfl) T.tuple (by decide +kernel) rfl) pa_nil))) (pe_one (pe_callB (cr_all rfl) (by rfl) T.all (by decide +kernel) (pa_cons (pe_lc (own := [("line", 1)]) (g := gName 1) (tt := tYes) rfl nd (pi_tup (pv 0)) (blkOk_by (N := ["thing", "line"]) (sc := defScope s_are_lines) (by decide +kernel)) (fun _ _ _ _ _ => pg_name (i := 1) nd rfl (Or.inl rfl)) (fun _ _ _ _ _ => pts_nil) (fun _ _ _ _ _ => (pe_and (pe_callB (show CallR _ _ (rIsi K) from call_isi) (by rfl) T.isi (by decide +kernel) (pa_cons (pv 1) (pa_cons (pe_bltn (v := .ty "tuple") (by rfl) T.tuple (by decide +kernel) rfl) pa_nil))) (pe_one (pe_cmpR op_eq (pe_callB (show CallR _ _ (rLenK K) from call_len_seq) (by rfl) T.len PySem.boot_len (pa_cons (pv 1) pa_nil)) pe_int (nomark _)))))) pa_nil)))))), ?_⟩
    walk_at "rd"
    refine ⟨_, _, _, _, _, rfl, .ty "tuple", .base (.tup hq), kit_ty (r := true) (by decide +kernel), ?_⟩
    walk_at "rd"
    refine ⟨⟨_, SqT.of hq⟩, fun D nD => ?_⟩
    refine lc_it (walk_tup (K := K) (a := qa) (xs := ps.map V.ref)) (fun j H3 => H3 D = some (.lst ((List.replicate j true).map V.bl)) ∧ Same H H3) ⟨upd_same, fun b u z => (upd_ne (ne_of_none z nD)).trans z⟩ (fun _ _ _ ⟨_, s3⟩ => SqT.of (s3 _ _ hq)) ?_ ?_
    · rintro j y H3 H4 hj ⟨hD, s3⟩ ⟨rfl, ey⟩
      rw [List.getElem?_map] at ey
      obtain ⟨x, ex, rfl⟩ := Option.map_eq_some_iff.mp ey
      rw [List.length_map] at hj
      obtain ⟨li, el⟩ : ∃ li, ls[j]? = some li := ⟨_, List.getElem?_eq_getElem (by omega)⟩
      have hx := s3 _ _ (ap j x li ex el)
      refine ⟨rfl, ?_⟩
      walk_at "rd"
      refine ⟨_, _, _, _, _, rfl, .ty "tuple", .base (.tup hx), kit_ty (r := true) (by decide +kernel), ?_⟩
      walk_at "rd"
      refine ⟨x, _, rfl, .inr (SqT.of hx), ?_⟩
      walk_at "rd"
      refine ⟨rfl, ?_⟩
      refine ⟨_, hD, ?_, ?_, fun b u z => (upd_ne (ne_of_none z nD)).trans (s3 _ _ z)⟩
      · rw [List.length_map, List.length_replicate]
        exact Nat.lt_of_lt_of_le (by omega : j < 51) (by decide)
      · rw [List.replicate_succ', List.map_append]
        exact upd_same
    rintro H3 ⟨hD, s3⟩
    walk_at "rd"
    refine ⟨D, _, rfl, SqL.of hD, ?_⟩
    walk_at "rd"
    rw [all_rep]
    exact q H3 s3
theorem ok_formed {f : Addr} {fd : FuncData} (F : Fun K "_is_formed" "_is_formed" s_is_formed f fd) (T : EnT K mg aN) (Al : Cal P w K mg base "_are_lines" 1 ["thing"] spLines f1 d1) : FnOk P w K mg base CX0 2 f fd ["thing"] spFormed := by
  refine F.ok sc_is_formed (fun vs H Q E h => ?_) (fun cdv A outer s0 H vs Q E hr h => ?_)
  · obtain ⟨p, e, es, rfl, _⟩ := h
    rfl
  · obtain ⟨p, e, es, rfl, ea, ok, q⟩ := h
    have nd := sc_is_formed.nd
    refine ⟨_, (pss_cons (ps_if (PW.pt (pw_or (pt_not (pt_val (pe_callB call_isi (by rfl) T.isi (by decide +kernel) (pa_cons (pv 0) (pa_cons (pe_bltn (v := .ty "tuple") (by rfl) T.tuple (by decide +kernel) rfl) pa_nil))))) (pw_or1 (pt_cmpR op_lt (pe_callB call_len_seq (by rfl) T.len PySem.boot_len (pa_cons (pv 0) pa_nil)) pe_int (nomark _))))) (pss_one (ps_ret pe_bl)) pss_nil)
      (pss_cons (ps_set (i := 1) nd rfl (Or.inl rfl) (pe_ix ix_tup (pv 0) pe_int (fun _ _ => rfl)))
      (pss_cons (ps_if (pt_cmpR op_eq (pv 1) pe_str (nomark _)) (pss_one (ps_ret (pe_cmpR op_eq (pe_callB call_len_seq (by rfl) T.len PySem.boot_len (pa_cons (pv 0) pa_nil)) pe_int (nomark _)))) pss_nil)
      (pss_cons (ps_if (pt_cmpR op_eq (pv 1) pe_str (nomark _)) (pss_one (ps_ret (pe_and (pe_cmpR op_eq (pe_callB call_len_seq (by rfl) T.len PySem.boot_len (pa_cons (pv 0) pa_nil)) pe_int (nomark _)) (pe_one (pe_callB call_isi (by rfl) T.isi (by decide +kernel) (pa_cons (pe_ix ix_tup (pv 0) pe_int (fun _ _ => rfl)) (pa_cons (pe_bltn (v := .ty "tuple") (by rfl) T.tuple (by decide +kernel) rfl) pa_nil))))))) pss_nil)
      (pss_one (ps_ret (pe_and (pe_cmpR op_eq (pv 1) pe_str (nomark _)) (pe_and (pe_cmpR op_eq (pe_callB call_len_seq (by rfl) T.len PySem.boot_len (pa_cons (pv 0) pa_nil)) pe_int (nomark _)) (pe_one (pcl Al hr (by decide) (by rfl) (pa_cons (pe_ix ix_tup (pv 0) pe_int (fun _ _ => rfl)) pa_nil))))))))))), ?_⟩
    walk_at "rd"
    cases e with
    | side n o s m pl =>
      obtain ⟨qa, hp, hq⟩ := ea
      refine ⟨_, _, _, _, _, rfl, .ty "tuple", .base (.tup hp), kit_ty (r := true) (by decide +kernel), ?_⟩
      walk_at "rd"
      refine ⟨p, _, rfl, .inr (SqT.of hp), ?_⟩
      walk_at "rd"
      refine ⟨p, _, _, _, rfl, rfl, SqT.of hp, at0, ?_⟩
      walk_at "rd"
      refine ⟨rfl, _, rfl, ?_⟩
      refine ite2 (fun _ => ?_) (fun z => absurd (decide_eq_true rfl) z)
      walk_at "rd"
      refine ⟨p, _, rfl, .inr (SqT.of hp), ?_⟩
      walk_at "rd"
      refine ⟨rfl, ?_⟩
      exact q H (Same.refl H)
    | set n ns =>
      obtain ⟨qa, hp, hq⟩ := ea
      refine ⟨_, _, _, _, _, rfl, .ty "tuple", .base (.tup hp), kit_ty (r := true) (by decide +kernel), ?_⟩
      walk_at "rd"
      refine ⟨p, _, rfl, .inr (SqT.of hp), ?_⟩
      walk_at "rd"
      refine ⟨p, _, _, _, rfl, rfl, SqT.of hp, at0, ?_⟩
      walk_at "rd"
      refine ⟨rfl, _, rfl, ?_⟩
      refine ite2 (fun z => absurd z (by decide +kernel)) (fun _ => ?_)
      walk_at "rd"
      refine ⟨rfl, _, rfl, ?_⟩
      refine ite2 (fun _ => ?_) (fun z => absurd (decide_eq_true rfl) z)
      walk_at "rd"
      refine ⟨p, _, rfl, .inr (SqT.of hp), ?_⟩
      walk_at "rd"
      refine ⟨rfl, _, rfl, ?_⟩
      refine ite2 (fun _ => ?_) (fun z => absurd (decide_eq_true rfl) z)
      walk_at "rd"
      refine ⟨p, _, _, _, rfl, rfl, SqT.of hp, at_nat (k := 2) rfl, ?_⟩
      refine ⟨_, _, _, _, _, rfl, .ty "tuple", .base (.tup hq), kit_ty (r := true) (by decide +kernel), ?_⟩
      exact q H (Same.refl H)
    | log n g ls =>
      obtain ⟨qa, ps, hp, hq, lp, ap⟩ := ea
      refine ⟨_, _, _, _, _, rfl, .ty "tuple", .base (.tup hp), kit_ty (r := true) (by decide +kernel), ?_⟩
      walk_at "rd"
      refine ⟨p, _, rfl, .inr (SqT.of hp), ?_⟩
      walk_at "rd"
      refine ⟨p, _, _, _, rfl, rfl, SqT.of hp, at0, ?_⟩
      walk_at "rd"
      refine ⟨rfl, _, rfl, ?_⟩
      refine ite2 (fun z => absurd z (by decide +kernel)) (fun _ => ?_)
      walk_at "rd"
      refine ⟨rfl, _, rfl, ?_⟩
      refine ite2 (fun z => absurd z (by decide +kernel)) (fun _ => ?_)
      walk_at "rd"
      refine ⟨rfl, _, rfl, ?_⟩
      refine ite2 (fun _ => ?_) (fun z => absurd (decide_eq_true rfl) z)
      walk_at "rd"
      refine ⟨p, _, rfl, .inr (SqT.of hp), ?_⟩
      walk_at "rd"
      refine ⟨rfl, _, rfl, ?_⟩
      refine ite2 (fun _ => ?_) (fun z => absurd (decide_eq_true rfl) z)
      walk_at "rd"
      refine ⟨p, _, _, _, rfl, rfl, SqT.of hp, at_nat (k := 3) rfl, ?_⟩
      walk_at "rd"
      exact ⟨qa, ps, ls, rfl, hq, lp, ok.2.2.2.1, ap, fun H' s' => q H' s'⟩
theorem ok_known {f : Addr} {fd : FuncData} (F : Fun K "known_entries" "known_entries" s_known_entries f fd) (T : EnT K mg aN) (Fo : Cal P w K mg base "_is_formed" 2 ["thing"] spFormed f1 d1) (Nf : Cal P w K mg base "names_fit" 2 ["entry", "known"] spFits f2 d2) (Wf : Cal P w K mg base "worths_fit" 6 ["entry", "known"] spFits f3 d3) : FnOk P w K mg base CX0 7 f fd ["entries"] spKnE := by
  refine F.ok sc_known_entries (fun vs H Q E h => ?_) (fun cdv A outer s0 H vs Q E hr h => ?_)
  · obtain ⟨l, es, rfl, _⟩ := h
    rfl
  · obtain ⟨l, es, rfl, ⟨ps, lps, hl, at_⟩, ok, l1000, q⟩ := h
    have nd := sc_known_entries.nd
    refine ⟨_, (pss_cons (ps_if (pt_not (pt_val (pe_callB call_isi (by rfl) T.isi (by decide +kernel) (pa_cons (pv 0) (pa_cons (pe_bltn (v := .ty "list") (by rfl) T.list (by decide +kernel) rfl) pa_nil))))) (pss_one ps_never) pss_nil)
      (pss_cons (ps_set (i := 1) nd rfl (Or.inl rfl) pe_dnewK)
      (pss_cons (ps_for PassesOwn.never rfl (pi_list (pv 0)) (pg_name (i := 2) nd rfl (Or.inl rfl)) (pss_cons (ps_if (pt_not (PW.pt (pw_and (pt_val (pcl Fo hr (by decide) (by rfl) (pa_cons (pv 2) pa_nil))) (pw_and (pt_val (pcl Nf hr (by decide) (by rfl) (pa_cons (pv 2) (pa_cons (pv 1) pa_nil)))) (pw_and1 (pt_val (pcl Wf hr (by decide) (by rfl) (pa_cons (pv 2) (pa_cons (pv 1) pa_nil))))))))) (pss_one ps_never) pss_nil)
      (pss_one (ps_dput (lt1 hr.units) (pv 1) (pe_ix ix_tup (pv 2) pe_int (fun _ _ => rfl)) (pv 2) rfl))))
      (pss_one (ps_ret (pv 1)))))), ?_⟩
    walk_at "rd"
    refine ⟨_, _, _, _, _, rfl, .ty "list", .base (.lst hl), kit_ty (r := true) (by decide +kernel), ?_⟩
    walk_at "rd"
    refine fun d nd0 => ?_
    generalize e_d : upd H d _ = H1
    have g_d : H1 d = some (.dK []) := by rw [← e_d]; exact upd_same
    have s_d : Same H H1 := by rw [← e_d]; exact fun b u z => (upd_ne (ne_of_none z nd0)).trans z
    clear e_d
    walk_at "rd"
    refine ⟨⟨_, SqL.of (s_d _ _ hl)⟩, ?_⟩
    refine for_list (K := K) (a := l) (xs := ps.map V.ref) (fun i st H3 => ∃ x2 : Option V, st = [some (.ref l), some (.ref d), x2] ∧ H3 d = some (.dK (zipK (es.take i) (ps.take i))) ∧ Same H H3) ⟨none, rfl, g_d, s_d⟩ (fun _ _ _ _ ⟨_, _, _, sm⟩ => SqL.of (sm _ _ hl)) ?_ ?_
    · rintro i z st H3 hz ⟨x2, rfl, hd, sm⟩
      rw [List.getElem?_map] at hz
      obtain ⟨p, ep, rfl⟩ := Option.map_eq_some_iff.mp hz
      have il : i < ps.length := (List.getElem?_eq_some_iff.mp ep).1
      obtain ⟨e, ee⟩ : ∃ e, es[i]? = some e := ⟨_, List.getElem?_eq_getElem (by omega)⟩
      have ea := (at_ i p e ep ee).same sm
      have eo := ok i e ee
      have kn : KnownAt H3 d (es.take i) := ⟨ps.take i, by rw [List.length_take, List.length_take, lps], hd, fun j x y a b => by
        rw [List.getElem?_take] at a b
        split at a
        · rename_i h1
          rw [if_pos h1] at b
          exact (at_ j x y a b).same sm
        · cases a⟩
      walk_at "rd"
      refine ⟨p, e, es.take i, rfl, ea, eo, fun H4 s4 => ?_⟩
      refine ⟨_, rfl, ?_⟩
      refine ite2 (fun _ => ?_) (fun z => absurd rfl z)
      walk_at "rd"
      refine ⟨p, d, e, es.take i, rfl, ea.same s4, eo, kn.same s4, fun H5 s5 => ?_⟩
      refine ⟨_, rfl, ?_⟩
      refine ite2 (fun _ => ?_) (fun z => absurd rfl z)
      walk_at "rd"
      have s45 := s4.trans s5
      refine ⟨p, d, e, es.take i, rfl, ea.same s45, eo, kn.same s45, fun H6 s6 => ?_⟩
      refine ⟨_, rfl, ?_⟩
      refine ite2 (fun z => absurd z (by decide)) (fun _ => ?_)
      have s46 := s45.trans s6
      obtain ⟨fn, ff⟩ := eo.fresh
      have hd6 := s46 _ _ hd
      have tl : (ps.take i).length = (es.take i).length := by rw [List.length_take, List.length_take, lps]
      have e1 : ∃ xs, H6 p = some (.tup (.str e.kind :: .str e.name :: xs)) := by
        cases e with
        | side n o s m pl => obtain ⟨q, a, b⟩ := ea.same s46; exact ⟨_, a⟩
        | set n ns => obtain ⟨q, a, b⟩ := ea.same s46; exact ⟨_, a⟩
        | log n g ls => obtain ⟨q, ps, a, b, c, d⟩ := ea.same s46; exact ⟨_, a⟩
      obtain ⟨xs, hp6⟩ := e1
      walk_at "rd"
      refine ⟨p, _, _, _, rfl, rfl, SqT.of hp6, at_nat (k := 1) rfl, ?_⟩
      refine ⟨d, _, rfl, DPut.k (k := .inr e.name) hd6 ?_, ?_⟩
      · rw [List.length_map, List.length_zip, List.length_take, List.length_take]
        exact Nat.lt_of_le_of_lt (by omega : _ ≤ 1000) (by decide)
      rw [put_fresh tl ff]
      refine ⟨_, rfl, ?_, fun b u z => (upd_ne (ne_of_none z nd0)).trans (s46 _ _ (sm _ _ z))⟩
      rw [zip_take lps ee ep]
      exact upd_same
    rintro st H3 ⟨x2, rfl, hd, sm⟩
    walk_at "rd"
    rw [List.length_map, List.take_length, lps, List.take_length] at hd
    exact q d H3 sm ⟨ps, lps, hd, fun j x y a b => (at_ j x y a b).same sm⟩
end
end HT
namespace HT
open PySem L2 TL
def tS (i : Int) : Str := Str.ofString (toString i)
def sideWs (n : Str) (o s : Int) (m : Str) (pl : Nat) : List Str := ([("side" : Str), n, tS s, m, "places", tS (pl : Int)] : List Str) ++ (if o = 0 then ([] : List Str) else [("at" : Str), tS o])
/-- the words of an entry's lines -/
def wordsE : Ent → List (List Str)
  | .side n o s m pl => [sideWs n o s m pl]
  | .set n ns => [("set" : Str) :: n :: ns]
  | .log n g ls => ([("log" : Str), n, g] : List Str) :: (ls.map fun l => [l.1, l.2]) ++ [[("end" : Str)]]
def lineW (ws : List Str) : Str := Txt.join " " ws
def linesE (e : Ent) : List Str := (wordsE e).map lineW
theorem tl_line (x : Str) (ws : List Str) : tl (lineW (x :: ws)) = tl x ++ StrLaws.glueL [32] ws := by
  have e := StrLaws.glued_list (" " : Str) x ws
  have e2 : (" " : Str).cps.toList = [32] := by decide +kernel
  rw [e2] at e
  exact e
theorem side_text (n : Str) (s : Int) (m : Str) (pl : Nat) : Str.empty ++ Str.ofString "side " ++ n ++ Str.ofString " " ++ Str.ofString (toString s) ++ Str.ofString " " ++ m ++ Str.ofString " places " ++ Str.ofString (toString (pl : Int)) = lineW [("side" : Str), n, tS s, m, "places", tS (pl : Int)] := by
  apply ext_tl
  rw [tl_line]
  have k0 : tl Str.empty = [] := rfl
  have k1 : tl (Str.ofString "side ") = tl (Str.ofString "side") ++ [32] := by decide +kernel
  have k2 : tl (Str.ofString " ") = [32] := by decide +kernel
  have k3 : tl (Str.ofString " places ") = [32] ++ tl (Str.ofString "places") ++ [32] := by decide +kernel
  simp only [tl_append, k0, k1, k2, k3, StrLaws.glueL, tS, List.nil_append, List.append_nil, List.append_assoc]
theorem at_text (n : Str) (s : Int) (m : Str) (pl : Nat) (o : Int) : Str.empty ++ lineW [("side" : Str), n, tS s, m, "places", tS (pl : Int)] ++ Str.ofString " at " ++ Str.ofString (toString o) = lineW (([("side" : Str), n, tS s, m, "places", tS (pl : Int)] : List Str) ++ [("at" : Str), tS o]) := by
  apply ext_tl
  have k0 : tl Str.empty = [] := rfl
  have k4 : tl (Str.ofString " at ") = [32] ++ tl (Str.ofString "at") ++ [32] := by decide +kernel
  simp only [List.cons_append, List.nil_append, tl_line, tl_append, k0, k4, StrLaws.glueL, tS, List.append_nil, List.append_assoc]
theorem mode_len {m : Str} (h : Mode m) : m.length ≤ 9 := by
  rcases h with rfl | rfl | rfl | rfl | rfl <;> decide +kernel
theorem tS_len {i : Int} (h : i.natAbs ≤ 10 ^ 41) : (Str.ofString (toString i)).length ≤ 60 := by
  have e := int_text_length_le10 (k := 42) (by decide) (Nat.lt_of_le_of_lt h (by decide))
  rw [ofString_length]
  omega
theorem lg_ok {i : Int} (h : i.natAbs ≤ 10 ^ 41) : i.natAbs.log2 < 1920 := by
  by_cases e : i.natAbs = 0
  · rw [e]; decide
  · have := (Nat.log2_lt e).mpr (show i.natAbs < 2 ^ 200 from Nat.lt_of_le_of_lt h (by decide))
    omega
def spSideLine : Sp := fun vs H Q _ => ∃ (p : Addr) (n : Str) (o s : Int) (m : Str) (pl : Nat), vs = [.ref p] ∧ EntAt H p (.side n o s m pl) ∧ NameP n ∧ SideP o s m ∧ pl ≤ 60 ∧ Q (.str (lineW (sideWs n o s m pl))) H
section
variable {P : Program} {w : World} {K : PySem.W.Frag} {mg : Str → Option Value} {base : Heap} {aN f1 f2 f3 f4 f5 : Addr} {d1 d2 d3 d4 d5 : FuncData}
theorem ok_side_line {f : Addr} {fd : FuncData} (F : Fun K "_side_line" "_side_line" s_side_line f fd) : FnOk P w K mg base CX0 1 f fd ["entry"] spSideLine := by
  refine F.ok sc_side_line (fun vs H Q E h => ?_) (fun cdv A outer s0 H vs Q E hr h => ?_)
  · obtain ⟨p, n, o, s, m, pl, rfl, _⟩ := h
    rfl
  · obtain ⟨p, n, o, s, m, pl, rfl, ⟨qa, hp, hq⟩, hn, sp, p60, q⟩ := h
    have nd := sc_side_line.nd
    refine ⟨_, (pss_cons (ps_asg (pv 0) (pg_tup (by rfl) (pgs_cons (pg_name (i := 1) nd rfl (Or.inl rfl)) (pgs_cons (pg_name (i := 2) nd rfl (Or.inl rfl)) (pgs_cons (pg_name (i := 3) nd rfl (Or.inl rfl)) (pgs_cons (pg_name (i := 4) nd rfl (Or.inl rfl)) pgs_nil))))))
      (pss_cons (ps_asg (pv 3) (pg_tup (by rfl) (pgs_cons (pg_name (i := 5) nd rfl (Or.inl rfl)) (pgs_cons (pg_name (i := 6) nd rfl (Or.inl rfl)) (pgs_cons (pg_name (i := 7) nd rfl (Or.inl rfl)) pgs_nil)))))
      (pss_cons (ps_set (i := 8) nd rfl (Or.inl rfl) (pe_joined (.cons pe_str (.cons (pe_fmt (pv 2)) (.cons pe_str (.cons (pe_fmt (pv 6)) (.cons pe_str (.cons (pe_fmt (pv 7)) (.cons pe_str (.cons (pe_fmt (pv 4)) .nil))))))))))
      (pss_cons (ps_if (pt_cmpR op_eq (pv 5) pe_int (nomark _)) (pss_one (ps_ret (pv 8))) pss_nil)
      (pss_one (ps_ret (pe_joined (.cons (pe_fmt (pv 8)) (.cons pe_str (.cons (pe_fmt (pv 5)) .nil)))))))))), ?_⟩
    walk_at "rd"
    refine ⟨p, _, rfl, SqT.of hp, rfl, _, _, rfl, _, _, rfl, _, _, rfl, _, _, rfl, rfl, ?_⟩
    walk_at "rd"
    refine ⟨qa, _, rfl, SqT.of hq, rfl, _, _, rfl, _, _, rfl, _, _, rfl, rfl, ?_⟩
    walk_at "rd"
    have c1 : (Str.ofString "side ").length = 5 := by decide +kernel
    have c2 : (Str.ofString " ").length = 1 := by decide +kernel
    have c3 : (Str.ofString " places ").length = 8 := by decide +kernel
    have c4 : (Str.ofString " at ").length = 4 := by decide +kernel
    have c5 : Str.empty.length = 0 := by decide +kernel
    have z : sizeLine = 16777216 := by decide +kernel
    have l1 := (name_facts hn).2.1
    have l2 := mode_len sp.md
    have l3 : (Str.ofString (toString s)).length ≤ 60 := tS_len (by have := sp.s0; have := sp.s1; omega)
    have l4 : (Str.ofString (toString (pl : Int))).length ≤ 60 := tS_len (by omega)
    have l5 : (Str.ofString (toString o)).length ≤ 60 := tS_len (by have := sp.o0; have := sp.o1; omega)
    refine ⟨(by simp only [Str.length_append, c1, c2, c3, c4, c5]; omega), ?_⟩
    walk_at "rd"
    refine ⟨(by omega), ?_⟩
    walk_at "rd"
    refine ⟨(by simp only [Str.length_append, c1, c2, c3, c4, c5]; omega), ?_⟩
    walk_at "rd"
    refine ⟨(by simp only [Str.length_append, c1, c2, c3, c4, c5]; omega), ?_⟩
    walk_at "rd"
    refine .inr ⟨s, rfl, (lg_ok (by have := sp.s0; have := sp.s1; omega)), ?_⟩
    walk_at "rd"
    refine ⟨(by simp only [Str.length_append, c1, c2, c3, c4, c5]; omega), ?_⟩
    walk_at "rd"
    refine ⟨(by simp only [Str.length_append, c1, c2, c3, c4, c5]; omega), ?_⟩
    walk_at "rd"
    refine ⟨(by omega), ?_⟩
    walk_at "rd"
    refine ⟨(by simp only [Str.length_append, c1, c2, c3, c4, c5]; omega), ?_⟩
    walk_at "rd"
    refine ⟨(by simp only [Str.length_append, c1, c2, c3, c4, c5]; omega), ?_⟩
    walk_at "rd"
    refine .inr ⟨(pl : Int), rfl, (lg_ok (by omega)), ?_⟩
    walk_at "rd"
    refine ⟨(by simp only [Str.length_append, c1, c2, c3, c4, c5]; omega), ?_⟩
    walk_at "rd"
    have lA := side_text n s m pl
    by_cases o0 : o = 0
    · refine ⟨rfl, _, rfl, ?_⟩
      refine ite2 (fun _ => ?_) (fun y => absurd (decide_eq_true (congrArg V.int o0)) y)
      walk_at "rd"
      unfold sideWs at q
      rw [if_pos o0, List.append_nil] at q
      rw [lA]
      exact q
    · refine ⟨rfl, _, rfl, ?_⟩
      refine ite2 (fun y => absurd (int_t y) o0) (fun _ => ?_)
      rw [lA]
      have l6 : (lineW [("side" : Str), n, tS s, m, "places", tS (pl : Int)]).length ≤ 2000 := by rw [← lA]; simp only [Str.length_append, c1, c2, c3, c4, c5]; omega
      walk_at "rd"
      refine ⟨by omega, ?_⟩
      walk_at "rd"
      refine ⟨by simp only [Str.length_append, c1, c2, c3, c4, c5]; omega, ?_⟩
      walk_at "rd"
      refine ⟨by simp only [Str.length_append, c1, c2, c3, c4, c5]; omega, ?_⟩
      walk_at "rd"
      refine .inr ⟨o, rfl, lg_ok (by have := sp.o0; have := sp.o1; omega), ?_⟩
      walk_at "rd"
      refine ⟨by simp only [Str.length_append, c1, c2, c3, c4, c5]; omega, ?_⟩
      walk_at "rd"
      unfold sideWs at q
      rw [if_neg o0] at q
      rw [at_text]
      exact q
end
end HT
namespace HT
open PySem L2 TL
/-- a word of a line -/
structure WordP (z : Str) : Prop where
  ne : tl z ≠ []
  le : z.length ≤ 1500
  sp : 32 ∉ tl z
  nl : 10 ∉ tl z
  ok : ∀ c ∈ tl z, c < 200
theorem name_word {n : Str} (h : NameP n) : WordP n := by
  unfold NameP tenN at h
  simp only [List.mem_cons, List.not_mem_nil, or_false] at h
  rcases h with rfl | rfl | rfl | rfl | rfl | rfl | rfl | rfl | rfl | rfl <;> exact ⟨by decide +kernel, by decide +kernel, by decide +kernel, by decide +kernel, by decide +kernel⟩
theorem digit_word {z : Str} {mk D : List Nat} (e : tl z = mk ++ D) (hm : mk = [] ∨ mk = [45]) (hd : ∀ c ∈ D, (48 ≤ c ∧ c ≤ 57) ∨ c = 46) (ne : D ≠ []) (l : z.length ≤ 1500) : WordP z := by
  have key : ∀ c ∈ tl z, c ≠ 32 ∧ c ≠ 10 ∧ c < 200 := fun c hc => by
    rw [e] at hc
    rcases List.mem_append.mp hc with h | h
    · rcases hm with rfl | rfl
      · cases h
      · rcases List.mem_singleton.mp h with rfl; decide
    · rcases hd c h with h | h <;> omega
  refine ⟨?_, l, fun h => (key _ h).1 rfl, fun h => (key _ h).2.1 rfl, fun c h => (key _ h).2.2⟩
  rw [e]
  intro z
  exact ne (List.append_eq_nil_iff.mp z).2
theorem text_word {fig : Int} {pl : Nat} (h0 : -10 ^ 62 < fig) (h1 : fig < 10 ^ 62) (hp : pl ≤ 60) : WordP (textM fig pl false false 0) := by
  obtain ⟨k, mk, W, gs, D, T, _, k0, g0, ln, m0⟩ := text_ok (sg := false) (gr := false) (wd := 0) h0 h1 hp (by decide) (by decide)
  have S := T.sh
  have e := S.eq
  rw [k0 rfl, g0 rfl] at e
  refine digit_word (mk := mk) (D := W ++ (grpL [] ++ fracL D)) e ?_ ?_ ?_ (by omega)
  · rcases S.sg with h | h | h
    · exact .inl h
    · exact .inr h
    · exact absurd h (m0 rfl)
  · intro c hc
    rcases List.mem_append.mp hc with h | h
    · exact .inl (S.wd c h)
    · rcases List.mem_append.mp h with h | h
      · cases h
      · cases D with
        | nil => cases h
        | cons d D =>
          rcases List.mem_cons.mp h with rfl | h
          · exact .inr rfl
          · exact .inl (S.dd c h)
  · intro z
    exact S.wn (List.append_eq_nil_iff.mp z).1
theorem log_text (n g : Str) : Str.empty ++ Str.ofString "log " ++ n ++ Str.ofString " " ++ g = lineW [("log" : Str), n, g] := by
  apply ext_tl
  rw [tl_line]
  have k0 : tl Str.empty = [] := rfl
  have k1 : tl (Str.ofString "log ") = tl (Str.ofString "log") ++ [32] := by decide +kernel
  have k2 : tl (Str.ofString " ") = [32] := by decide +kernel
  simp only [tl_append, k0, k1, k2, StrLaws.glueL, List.nil_append, List.append_nil, List.append_assoc]
theorem pair_text (a b : Str) : Str.empty ++ a ++ Str.ofString " " ++ b = lineW [a, b] := by
  apply ext_tl
  rw [tl_line]
  have k0 : tl Str.empty = [] := rfl
  have k2 : tl (Str.ofString " ") = [32] := by decide +kernel
  simp only [tl_append, k0, k2, StrLaws.glueL, List.nil_append, List.append_nil, List.append_assoc]
def spLinesOf : Sp := fun vs H Q _ => ∃ (p : Addr) (e : Ent) (es : List Ent), vs = [.ref p] ∧ EntAt H p e ∧ EntOk es e ∧ ∀ (l : Addr) (H' : Hp), H l = none → Same H H' → H' l = some (.lst ((linesE e).map V.str)) → Q (.ref l) H'
section
variable {P : Program} {w : World} {K : PySem.W.Frag} {mg : Str → Option Value} {base : Heap} {aN f1 f2 f3 f4 f5 : Addr} {d1 d2 d3 d4 d5 : FuncData}
theorem ok_lines_of {f : Addr} {fd : FuncData} (F : Fun K "_lines_of" "_lines_of" s_lines_of f fd) (Sl : Cal P w K mg base "_side_line" 1 ["entry"] spSideLine f1 d1) : FnOk P w K mg base CX0 2 f fd ["entry"] spLinesOf := by
  refine F.ok sc_lines_of (fun vs H Q E h => ?_) (fun cdv A outer s0 H vs Q E hr h => ?_)
  · obtain ⟨p, e, es, rfl, _⟩ := h
    rfl
  · obtain ⟨p, e, es, rfl, ea, ok, q⟩ := h
    have nd := sc_lines_of.nd
    refine ⟨_, (pss_cons (ps_if (pt_cmpR op_eq (pe_ix ix_tup (pv 0) pe_int (fun _ _ => rfl)) pe_str (nomark _)) (pss_one (ps_ret (pe_lst (pa_cons (pcl Sl hr (by decide) (by rfl) (pa_cons (pv 0) pa_nil)) pa_nil)))) pss_nil)
      (pss_cons (ps_if (pt_cmpR op_eq (pe_ix ix_tup (pv 0) pe_int (fun _ _ => rfl)) pe_str (nomark _)) (pss_cons (ps_asg (pv 0) (pg_tup (by rfl) (pgs_cons (pg_name (i := 1) nd rfl (Or.inl rfl)) (pgs_cons (pg_name (i := 2) nd rfl (Or.inl rfl)) (pgs_cons (pg_name (i := 3) nd rfl (Or.inl rfl)) pgs_nil)))))
      (pss_one (ps_ret (pe_lst (pa_cons (pe_bm PySem.F.plainAttrs_str PySem.F.slot_str_join PySem.F.type_str_join mt_join pe_str (pa_cons (pe_lst (pa_cons pe_str (pa_cons (pv 2) (StX.pa_star (pv 3) pa_nil)))) pa_nil)) pa_nil))))) pss_nil)
      (pss_cons (ps_asg (pv 0) (pg_tup (by rfl) (pgs_cons (pg_name (i := 1) nd rfl (Or.inl rfl)) (pgs_cons (pg_name (i := 2) nd rfl (Or.inl rfl)) (pgs_cons (pg_name (i := 4) nd rfl (Or.inl rfl)) (pgs_cons (pg_name (i := 5) nd rfl (Or.inl rfl)) pgs_nil))))))
      (pss_one (ps_ret (pe_op op_cat (pe_op op_cat (pe_lst (pa_cons (pe_joined (.cons pe_str (.cons (pe_fmt (pv 2)) (.cons pe_str (.cons (pe_fmt (pv 4)) .nil))))) pa_nil)) (pe_lc (own := [("part", 6), ("text", 7)]) (g := (gTup K 2 (gCons (gName 6) (gCons (gName 7) gNil)))) (tt := tYes) rfl nd (pi_tup (pv 5)) (blkOk_by (N := ["entry", "_", "name", "names", "group", "lines", "part", "text"]) (sc := defScope s_lines_of) (by decide +kernel)) (fun _ _ _ _ _ => pg_tup (by rfl) (pgs_cons (pg_name (i := 6) nd rfl (Or.inl rfl)) (pgs_cons (pg_name (i := 7) nd rfl (Or.inl rfl)) pgs_nil))) (fun _ _ _ _ _ => pts_nil) (fun _ _ _ _ _ => (pe_joined (.cons (pe_fmt (pv 6)) (.cons pe_str (.cons (pe_fmt (pv 7)) .nil))))))) (pe_lst (pa_cons pe_str pa_nil)))))))), ?_⟩
    walk_at "rd"
    cases e with
    | side n o s m pl =>
      obtain ⟨qa, hp, hq⟩ := id ea
      refine ⟨p, _, _, _, rfl, rfl, SqT.of hp, at0, ?_⟩
      walk_at "rd"
      refine ⟨rfl, _, rfl, ?_⟩
      refine ite2 (fun _ => ?_) (fun z => absurd (decide_eq_true rfl) z)
      walk_at "rd"
      refine ⟨p, n, o, s, m, pl, rfl, ea, ok.1, ok.2.2.1, ok.2.2.2, ?_⟩
      walk_at "rd"
      refine ⟨(by show 1 ≤ sizeLine; decide), fun l nl => ?_⟩
      exact q l _ nl (fun b u z => (upd_ne (ne_of_none z nl)).trans z) upd_same
    | set n ns =>
      obtain ⟨qa, hp, hq⟩ := id ea
      refine ⟨p, _, _, _, rfl, rfl, SqT.of hp, at0, ?_⟩
      walk_at "rd"
      refine ⟨rfl, _, rfl, ?_⟩
      refine ite2 (fun z => absurd z (by decide +kernel)) (fun _ => ?_)
      walk_at "rd"
      refine ⟨p, _, _, _, rfl, rfl, SqT.of hp, at0, ?_⟩
      walk_at "rd"
      refine ⟨rfl, _, rfl, ?_⟩
      refine ite2 (fun _ => ?_) (fun z => absurd (decide_eq_true rfl) z)
      walk_at "rd"
      refine ⟨p, _, rfl, SqT.of hp, rfl, _, _, rfl, _, _, rfl, _, _, rfl, rfl, ?_⟩
      walk_at "rd"
      refine ⟨rfl, ?_⟩
      walk_at "rd"
      refine ⟨qa, _, rfl, .inl (SqT.of hq), ?_⟩
      walk_at "rd"
      have n4 := ok.2.2.2.1
      refine ⟨?_, fun p1 np1 => ?_⟩
      · show (ns.map V.str ++ []).length + 1 + 1 ≤ sizeLine
        rw [List.append_nil, List.length_map]
        exact Nat.le_trans (by omega : _ ≤ 6) (by decide)
      generalize e1 : upd H p1 _ = H1
      have g1 : H1 p1 = some (.lst ((("set" : Str) :: n :: ns).map V.str)) := by rw [← e1, upd_same]; exact congrArg (fun z => some (HO.lst (V.str "set" :: V.str n :: z))) (List.append_nil _)
      have s1 : Same H H1 := by rw [← e1]; exact fun b u z => (upd_ne (ne_of_none z np1)).trans z
      clear e1
      walk_at "rd"
      refine ⟨_, p1, ("set" : Str) :: n :: ns, rfl, rfl, .inl (SqL.of g1), ?_, ?_⟩
      · have b := StrLaws.sumLen_le (B := 1500) (("set" : Str) :: n :: ns) (fun y hy => by
          rcases List.mem_cons.mp hy with rfl | hy
          · decide +kernel
          · rcases List.mem_cons.mp hy with rfl | hy
            · exact (name_word ok.1).le
            · exact (name_word (ok.2.2.2.2 y hy).1).le)
        have c : (" " : Str).length = 1 := by decide +kernel
        rw [c]
        have l : (("set" : Str) :: n :: ns).length = ns.length + 2 := rfl
        rw [l] at b ⊢
        have : (ns.length + 2) * 1500 ≤ 6 * 1500 := Nat.mul_le_mul_right _ (by omega)
        omega
      walk_at "rd"
      refine ⟨(by show 1 ≤ sizeLine; decide), fun l nl => ?_⟩
      exact q l _ (s1.free nl) (s1.trans fun b u z => (upd_ne (ne_of_none z nl)).trans z) upd_same
    | log n g ls =>
      obtain ⟨qa, ps, hp, hq, lp, ap⟩ := id ea
      refine ⟨p, _, _, _, rfl, rfl, SqT.of hp, at0, ?_⟩
      walk_at "rd"
      refine ⟨rfl, _, rfl, ?_⟩
      refine ite2 (fun z => absurd z (by decide +kernel)) (fun _ => ?_)
      walk_at "rd"
      refine ⟨p, _, _, _, rfl, rfl, SqT.of hp, at0, ?_⟩
      walk_at "rd"
      refine ⟨rfl, _, rfl, ?_⟩
      refine ite2 (fun z => absurd z (by decide +kernel)) (fun _ => ?_)
      walk_at "rd"
      refine ⟨p, _, rfl, SqT.of hp, rfl, _, _, rfl, _, _, rfl, _, _, rfl, _, _, rfl, rfl, ?_⟩
      walk_at "rd"
      have c1 : (Str.ofString "log ").length = 4 := by decide +kernel
      have c2 : (Str.ofString " ").length = 1 := by decide +kernel
      have c5 : Str.empty.length = 0 := by decide +kernel
      have z : sizeLine = 16777216 := by decide +kernel
      have l1 := (name_facts ok.1).2.1
      obtain ⟨ns, n4, ng, fg, al⟩ := ok.2.2.1
      have l2 := (name_facts ng).2.1
      have l50 := ok.2.2.2.1
      have ll := ok.2.2.2.2
      have lw : ∀ li ∈ ls, WordP li.1 ∧ WordP li.2 := fun li hl => by
        obtain ⟨nn, o, s, m, pl, fig, _, g0, g1, p60, tx⟩ := ll li hl
        exact ⟨name_word nn, by rw [tx]; exact text_word g0 g1 p60⟩
      refine ⟨(by simp only [Str.length_append, c1, c2, c5]; omega), ?_⟩
      walk_at "rd"
      refine ⟨by omega, ?_⟩
      walk_at "rd"
      refine ⟨(by simp only [Str.length_append, c1, c2, c5]; omega), ?_⟩
      walk_at "rd"
      refine ⟨(by simp only [Str.length_append, c1, c2, c5]; omega), ?_⟩
      walk_at "rd"
      refine ⟨by omega, ?_⟩
      walk_at "rd"
      refine ⟨(by simp only [Str.length_append, c1, c2, c5]; omega), ?_⟩
      rw [log_text]
      walk_at "rd"
      refine ⟨(by show 1 ≤ sizeLine; decide), fun p1 np1 => ?_⟩
      generalize e1 : upd H p1 _ = H1
      have g1 : H1 p1 = some (.lst [.str (lineW [("log" : Str), n, g])]) := by rw [← e1]; exact upd_same
      have s1 : Same H H1 := by rw [← e1]; exact fun b u z => (upd_ne (ne_of_none z np1)).trans z
      clear e1
      have hq1 := s1 _ _ hq
      walk_at "rd"
      refine ⟨⟨_, SqT.of hq1⟩, fun D nD => ?_⟩
      refine lc_it (te := fun σ H Q => tJs [tFmt (tVar 6), tC (V.str (Str.ofString " ")), tFmt (tVar 7)] Str.empty σ H fun out H1 => Q (.str out) H1) (walk_tup (K := K) (a := qa) (xs := ps.map V.ref)) (fun j H3 => H3 D = some (.lst ((ls.take j).map fun l => V.str (lineW [l.1, l.2]))) ∧ Same H1 H3) ⟨upd_same, fun b u z => (upd_ne (ne_of_none z nD)).trans z⟩ (fun _ _ _ ⟨_, s3⟩ => SqT.of (s3 _ _ hq1)) ?_ ?_
      · rintro j y H3 H4 hj ⟨hD, s3⟩ ⟨rfl, ey⟩
        rw [List.getElem?_map] at ey
        obtain ⟨x, ex, rfl⟩ := Option.map_eq_some_iff.mp ey
        rw [List.length_map] at hj
        obtain ⟨li, el⟩ : ∃ li, ls[j]? = some li := ⟨_, List.getElem?_eq_getElem (by omega)⟩
        have hx := s3 _ _ (s1 _ _ (ap j x li ex el))
        obtain ⟨w1, w2⟩ := lw li (List.mem_of_getElem? el)
        have b1 := w1.le
        have b2 := w2.le
        refine ⟨x, _, rfl, SqT.of hx, rfl, _, _, rfl, _, _, rfl, rfl, ?_⟩
        refine ⟨rfl, ?_⟩
        walk_at "rd"
        refine ⟨by omega, ?_⟩
        walk_at "rd"
        refine ⟨(by simp only [Str.length_append, c1, c2, c5]; omega), ?_⟩
        walk_at "rd"
        refine ⟨(by simp only [Str.length_append, c1, c2, c5]; omega), ?_⟩
        walk_at "rd"
        refine ⟨by omega, ?_⟩
        walk_at "rd"
        refine ⟨(by simp only [Str.length_append, c1, c2, c5]; omega), ?_⟩
        rw [pair_text]
        refine ⟨_, hD, ?_, ?_, fun b u z => (upd_ne (ne_of_none z nD)).trans (s3 _ _ z)⟩
        · rw [List.length_map, List.length_take]
          exact Nat.lt_of_le_of_lt (by omega : _ ≤ 51) (by decide)
        · rw [List.take_succ, el, List.map_append]
          exact upd_same
      rintro H3 ⟨hD, s3⟩
      rw [List.length_map, lp, List.take_length] at hD
      walk_at "rd"
      have g3 := s3 _ _ g1
      refine ⟨p1, D, _, _, rfl, rfl, g3, hD, ?_, fun p2 np2 => ?_⟩
      · rw [List.length_map]
        show 1 + ls.length ≤ sizeLine
        omega
      generalize e2 : upd H3 p2 _ = H4
      have g4 : H4 p2 = some (.lst ([V.str (lineW [("log" : Str), n, g])] ++ ls.map fun l => V.str (lineW [l.1, l.2]))) := by rw [← e2]; exact upd_same
      have s4 : Same H3 H4 := by rw [← e2]; exact fun b u z => (upd_ne (ne_of_none z np2)).trans z
      clear e2
      walk_at "rd"
      refine ⟨(by show 1 ≤ sizeLine; decide), fun p3 np3 => ?_⟩
      generalize e3 : upd H4 p3 _ = H5
      have g5 : H5 p3 = some (.lst [V.str "end"]) := by rw [← e3]; exact upd_same
      have s5 : Same H4 H5 := by rw [← e3]; exact fun b u z => (upd_ne (ne_of_none z np3)).trans z
      clear e3
      refine ⟨p2, p3, _, _, rfl, rfl, s5 _ _ g4, g5, ?_, fun p4 np4 => ?_⟩
      · rw [List.length_append, List.length_map]
        show 1 + ls.length + 1 ≤ sizeLine
        omega
      have all := s1.trans (s3.trans (s4.trans s5))
      refine q p4 _ (all.free np4) (all.trans fun b u z => (upd_ne (ne_of_none z np4)).trans z) ?_
      rw [upd_same]
      show some (HO.lst _) = some (HO.lst _)
      congr 2
      show _ = ((lineW [("log" : Str), n, g] :: ((ls.map fun l => [l.1, l.2]) ++ [[("end" : Str)]]).map lineW)).map V.str
      rw [List.map_append, List.map_cons, List.map_append, List.map_map, List.map_map]
      rfl
end
end HT
namespace HT
open PySem L2 TL
theorem tS_tl (i : Int) : ∃ mk D : List Nat, tl (tS i) = mk ++ D ∧ (mk = [] ∨ mk = [45]) ∧ D = numL i.natAbs := by
  cases i with
  | ofNat n => exact ⟨[], numL n, tl_num n, .inl rfl, rfl⟩
  | negSucc n =>
    refine ⟨[45], numL (n + 1), ?_, .inr rfl, rfl⟩
    have e : toString (Int.negSucc n) = "-" ++ toString (((n + 1 : Nat) : Int)) := rfl
    unfold tS
    rw [e, tl_ofString, String.toList_append, List.map_append, ← tl_ofString, ← tl_ofString, tl_num]
    rfl
theorem tS_word {i : Int} (h : i.natAbs ≤ 10 ^ 41) : WordP (tS i) := by
  obtain ⟨mk, D, e, m, d⟩ := tS_tl i
  refine digit_word e m (fun c hc => .inl ?_) ?_ (Nat.le_trans (tS_len h) (by decide))
  · rw [d] at hc; exact numL_digits _ c hc
  · rw [d]; exact numL_ne _
theorem mode_word {m : Str} (h : Mode m) : WordP m := by
  rcases h with rfl | rfl | rfl | rfl | rfl <;> exact ⟨by decide +kernel, by decide +kernel, by decide +kernel, by decide +kernel, by decide +kernel⟩
theorem cw_side : WordP "side" := ⟨by decide +kernel, by decide +kernel, by decide +kernel, by decide +kernel, by decide +kernel⟩
theorem cw_set : WordP "set" := ⟨by decide +kernel, by decide +kernel, by decide +kernel, by decide +kernel, by decide +kernel⟩
theorem cw_log : WordP "log" := ⟨by decide +kernel, by decide +kernel, by decide +kernel, by decide +kernel, by decide +kernel⟩
theorem cw_end : WordP "end" := ⟨by decide +kernel, by decide +kernel, by decide +kernel, by decide +kernel, by decide +kernel⟩
theorem cw_places : WordP "places" := ⟨by decide +kernel, by decide +kernel, by decide +kernel, by decide +kernel, by decide +kernel⟩
theorem cw_at : WordP "at" := ⟨by decide +kernel, by decide +kernel, by decide +kernel, by decide +kernel, by decide +kernel⟩
/-- a line's words -/
structure LineP (ws : List Str) : Prop where
  ne : ws ≠ []
  le : ws.length ≤ 8
  al : ∀ z ∈ ws, WordP z
theorem ent_words {es : List Ent} {e : Ent} (h : EntOk es e) : (wordsE e).length ≤ 52 ∧ ∀ ws ∈ wordsE e, LineP ws := by
  cases e with
  | side n o s m pl =>
    obtain ⟨hn, _, sp, p60⟩ := h
    refine ⟨by show 1 ≤ 52; decide, fun ws hw => ?_⟩
    rcases List.mem_singleton.mp hw with rfl
    have six : ∀ z ∈ ([("side" : Str), n, tS s, m, "places", tS (pl : Int)] : List Str), WordP z := fun z hz => by
      simp only [List.mem_cons, List.not_mem_nil, or_false] at hz
      rcases hz with rfl | rfl | rfl | rfl | rfl | rfl
      · exact cw_side
      · exact name_word hn
      · exact tS_word (by have := sp.s0; have := sp.s1; omega)
      · exact mode_word sp.md
      · exact cw_places
      · exact tS_word (by omega)
    unfold sideWs
    by_cases o0 : o = 0
    · rw [if_pos o0]
      exact ⟨by simp, by simp, fun z hz => six z (by simpa using hz)⟩
    · rw [if_neg o0]
      refine ⟨by simp, by simp, fun z hz => ?_⟩
      rcases List.mem_append.mp hz with hz | hz
      · exact six z hz
      · simp only [List.mem_cons, List.not_mem_nil, or_false] at hz
        rcases hz with rfl | rfl
        · exact cw_at
        · exact tS_word (by have := sp.o0; have := sp.o1; omega)
  | set n ns =>
    obtain ⟨hn, _, n1, n4, al⟩ := h
    refine ⟨by show 1 ≤ 52; decide, fun ws hw => ?_⟩
    rcases List.mem_singleton.mp hw with rfl
    refine ⟨by simp, by show ns.length + 1 + 1 ≤ 8; omega, fun z hz => ?_⟩
    rcases List.mem_cons.mp hz with rfl | hz
    · exact cw_set
    · rcases List.mem_cons.mp hz with rfl | hz
      · exact name_word hn
      · exact name_word (al z hz).1
  | log n g ls =>
    obtain ⟨hn, _, ⟨ns, n4, ng, fg, al⟩, l50, ll⟩ := h
    refine ⟨?_, fun ws hw => ?_⟩
    · show ((ls.map fun l => [l.1, l.2]) ++ [[("end" : Str)]]).length + 1 ≤ 52
      rw [List.length_append, List.length_map]
      show ls.length + 1 + 1 ≤ 52
      omega
    · rcases List.mem_cons.mp hw with rfl | hw
      · refine ⟨by simp, by simp, fun z hz => ?_⟩
        simp only [List.mem_cons, List.not_mem_nil, or_false] at hz
        rcases hz with rfl | rfl | rfl
        · exact cw_log
        · exact name_word hn
        · exact name_word ng
      · rcases List.mem_append.mp hw with hw | hw
        · obtain ⟨l, hl, rfl⟩ := List.mem_map.mp hw
          obtain ⟨nn, o, s, m, pl, fig, _, g0, g1, p60, tx⟩ := ll l hl
          refine ⟨by simp, by simp, fun z hz => ?_⟩
          simp only [List.mem_cons, List.not_mem_nil, or_false] at hz
          rcases hz with rfl | rfl
          · exact name_word nn
          · rw [tx]; exact text_word g0 g1 p60
        · rcases List.mem_singleton.mp hw with rfl
          refine ⟨by simp, by simp, fun z hz => ?_⟩
          rcases List.mem_singleton.mp hz with rfl
          exact cw_end
theorem glue_le : ∀ ws : List Str, (∀ z ∈ ws, WordP z) → (StrLaws.glueL [32] ws).length ≤ ws.length * 1501
  | [], _ => Nat.zero_le _
  | w :: ws, h => by
    have a := glue_le ws fun z hz => h z (List.mem_cons_of_mem _ hz)
    have b := (h w List.mem_cons_self).le
    rw [len_tl] at b
    show ([32] ++ (tl w ++ StrLaws.glueL [32] ws)).length ≤ (ws.length + 1) * 1501
    rw [List.length_append, List.length_append]
    show 1 + _ ≤ _
    omega
theorem line_len {ws : List Str} (h : LineP ws) : (lineW ws).length ≤ 12010 := by
  cases ws with
  | nil => exact absurd rfl h.ne
  | cons w ws =>
    have a := glue_le ws fun z hz => h.al z (List.mem_cons_of_mem _ hz)
    have b := (h.al w List.mem_cons_self).le
    have c := h.le
    rw [len_tl] at b
    rw [len_tl, tl_line, List.length_append]
    have : ws.length * 1501 ≤ 7 * 1501 := Nat.mul_le_mul_right _ (by simpa using c)
    omega
/-- all lines of the entries, by their words -/
def allW (es : List Ent) : List (List Str) := es.flatMap wordsE
theorem all_words : ∀ (es : List Ent) (pre : List Ent), (∀ (i : Nat) (e : Ent), es[i]? = some e → EntOk (pre ++ es.take i) e) → (allW es).length ≤ es.length * 52 ∧ ∀ ws ∈ allW es, LineP ws
  | [], _, _ => ⟨Nat.zero_le _, fun _ h => by cases h⟩
  | e :: es, pre, h => by
    have a := ent_words (h 0 e rfl)
    have b := all_words es (pre ++ [e]) fun i x hx => by
      have := h (i + 1) x hx
      rwa [List.take_succ_cons, List.append_cons] at this
    unfold allW at b ⊢
    rw [List.flatMap_cons]
    refine ⟨?_, fun ws hw => ?_⟩
    · rw [List.length_append, List.length_cons, Nat.add_mul]
      omega
    · rcases List.mem_append.mp hw with hw | hw
      · exact a.2 ws hw
      · exact b.2 ws hw
theorem take_len (es : List Ent) (i : Nat) : (allW (es.take i)).length ≤ (allW es).length := by
  have e : allW es = allW (es.take i) ++ allW (es.drop i) := by
    unfold allW
    rw [← List.flatMap_append, List.take_append_drop]
  rw [e, List.length_append]
  omega
def paperT (es : List Ent) : Str := Txt.join "" (((allW es).map lineW).map fun z => z ++ ("\n" : Str))
def spPaper : Sp := fun vs H Q _ => ∃ (l : Addr) (es : List Ent), vs = [.ref l] ∧ EntsAt H l es ∧ AllOk es ∧ es.length ≤ 12 ∧ ∀ H', Same H H' → Q (.str (paperT es)) H'
section
variable {P : Program} {w : World} {K : PySem.W.Frag} {mg : Str → Option Value} {base : Heap} {aN f1 f2 f3 f4 f5 : Addr} {d1 d2 d3 d4 d5 : FuncData}
theorem ok_paper {f : Addr} {fd : FuncData} (F : Fun K "paper_text" "paper_text" s_paper_text f fd) (Ke : Cal P w K mg base "known_entries" 7 ["entries"] spKnE f1 d1) (Lo : Cal P w K mg base "_lines_of" 2 ["entry"] spLinesOf f2 d2) : FnOk P w K mg base CX0 8 f fd ["entries"] spPaper := by
  refine F.ok sc_paper_text (fun vs H Q E h => ?_) (fun cdv A outer s0 H vs Q E hr h => ?_)
  · obtain ⟨l, es, rfl, _⟩ := h
    rfl
  · obtain ⟨l, es, rfl, ea, ok, l12, q⟩ := h
    have nd := sc_paper_text.nd
    refine ⟨_, (pss_cons (ps_expr (pcl Ke hr (by decide) (by rfl) (pa_cons (pv 0) pa_nil)))
      (pss_cons (ps_set (i := 1) nd rfl (Or.inl rfl) (pe_lst pa_nil))
      (pss_cons (ps_for PassesOwn.never rfl (pi_list (pv 0)) (pg_name (i := 2) nd rfl (Or.inl rfl)) (pss_one (ps_expr (pe_bm PySem.F.plainAttrs_list PySem.F.slot_list_extend PySem.F.type_list_extend mt_extend (pv 1) (pa_cons (pcl Lo hr (by decide) (by rfl) (pa_cons (pv 2) pa_nil)) pa_nil)))))
      (pss_one (ps_ret (pe_bm PySem.F.plainAttrs_str PySem.F.slot_str_join PySem.F.type_str_join mt_join pe_str (pa_cons (pe_lc (own := [("line", 3)]) (g := gName 3) (tt := tYes) rfl nd (pi_list (pv 1)) (blkOk_by (N := ["entries", "lines", "entry", "line"]) (sc := defScope s_paper_text) (by decide +kernel)) (fun _ _ _ _ _ => pg_name (i := 3) nd rfl (Or.inl rfl)) (fun _ _ _ _ _ => pts_nil) (fun _ _ _ _ _ => (pe_op op_add_str (pv 3) pe_str))) pa_nil))))))), ?_⟩
    walk_at "rd"
    refine ⟨l, es, rfl, ea, ok, by omega, fun d H1 s1 _ => ?_⟩
    walk_at "rd"
    refine ⟨(by show 0 ≤ sizeLine; decide), fun L nL => ?_⟩
    generalize e1 : upd H1 L _ = H2
    have g1 : H2 L = some (.lst []) := by rw [← e1]; exact upd_same
    have s2 : Same H1 H2 := by rw [← e1]; exact fun b u z => (upd_ne (ne_of_none z nL)).trans z
    clear e1
    obtain ⟨ps, lps, hl, at_⟩ := ea
    obtain ⟨aw1, aw2⟩ := all_words es [] (fun i e h => ok i e h)
    have s12 := s1.trans s2
    have nL0 := s1.free nL
    walk_at "rd"
    refine ⟨⟨_, SqL.of (s12 _ _ hl)⟩, ?_⟩
    refine for_list (K := K) (a := l) (xs := ps.map V.ref) (fun i st H3 => ∃ x2 : Option V, st = [some (.ref l), some (.ref L), x2, none] ∧ H3 L = some (.lst (((allW (es.take i)).map lineW).map V.str)) ∧ Same H H3) ⟨none, rfl, g1, s12⟩ (fun _ _ _ _ ⟨_, _, _, sm⟩ => SqL.of (sm _ _ hl)) ?_ ?_
    · rintro i z st H3 hz ⟨x2, rfl, hL, sm⟩
      rw [List.getElem?_map] at hz
      obtain ⟨p, ep, rfl⟩ := Option.map_eq_some_iff.mp hz
      have il : i < ps.length := (List.getElem?_eq_some_iff.mp ep).1
      obtain ⟨e, ee⟩ : ∃ e, es[i]? = some e := ⟨_, List.getElem?_eq_getElem (by omega)⟩
      walk_at "rd"
      refine ⟨.inl ⟨rfl, _, SqL.of hL⟩, ?_⟩
      walk_at "rd"
      refine ⟨p, e, es.take i, rfl, (at_ i p e ep ee).same sm, ok i e ee, fun b H4 nb s4 hb => ?_⟩
      have bl := (ent_words (ok i e ee)).1
      have tl1 := take_len es i
      refine ⟨L, b, _, _, rfl, rfl, s4 _ _ hL, hb, ?_, ?_⟩
      · rw [List.length_map, List.length_map, List.length_map]
        show (allW (es.take i)).length + ((wordsE e).map lineW).length ≤ sizeLine
        rw [List.length_map]
        exact Nat.le_trans (by omega : _ ≤ 1000) (by decide)
      refine ⟨_, rfl, ?_, fun b u z => (upd_ne (ne_of_none z nL0)).trans (s4 _ _ (sm _ _ z))⟩
      rw [upd_same]
      have tk : allW (es.take (i + 1)) = allW (es.take i) ++ wordsE e := by
        unfold allW
        rw [List.take_succ, ee, List.flatMap_append]
        show _ ++ List.flatMap wordsE [e] = _
        rw [List.flatMap_cons, List.flatMap_nil, List.append_nil]
      rw [tk, List.map_append, List.map_append]
      rfl
    rintro st H3 ⟨x2, rfl, hL, sm⟩
    rw [List.length_map, lps, List.take_length] at hL
    walk_at "rd"
    refine ⟨rfl, ?_⟩
    walk_at "rd"
    refine ⟨⟨_, SqL.of hL⟩, fun D nD => ?_⟩
    refine lc_it (walk_list (K := K) (a := L) (xs := ((allW es).map lineW).map V.str)) (fun j H4 => H4 D = some (.lst ((((allW es).map lineW).take j).map fun z => V.str (z ++ ("
" : Str)))) ∧ Same H3 H4) ⟨upd_same, fun b u z => (upd_ne (ne_of_none z nD)).trans z⟩ (fun _ _ _ ⟨_, s3⟩ => SqL.of (s3 _ _ hL)) ?_ ?_
    · rintro j y H4 H5 hj ⟨hD, s3⟩ ⟨rfl, ey⟩
      rw [List.getElem?_map] at ey
      obtain ⟨x, ex, rfl⟩ := Option.map_eq_some_iff.mp ey
      rw [List.length_map, List.length_map] at hj
      have xl : x.length ≤ 12010 := by
        obtain ⟨ws, hw, rfl⟩ := List.mem_map.mp (List.mem_of_getElem? ex)
        exact line_len (aw2 ws hw)
      refine ⟨rfl, ?_⟩
      walk_at "rd"
      have c : (Str.ofString "
").length = 1 := by decide +kernel
      refine ⟨by rw [c]; exact Nat.le_trans (by omega : _ ≤ 13000) (by decide), ?_⟩
      refine ⟨_, hD, ?_, ?_, fun b u z => (upd_ne (ne_of_none z nD)).trans (s3 _ _ z)⟩
      · rw [List.length_map, List.length_take, List.length_map]
        exact Nat.lt_of_le_of_lt (by omega : _ ≤ 1000) (by decide)
      · rw [List.take_succ, ex, List.map_append]
        exact upd_same
    rintro H4 ⟨hD, s4⟩
    walk_at "rd"
    rw [List.length_map, List.take_length] at hD
    refine ⟨_, D, ((allW es).map lineW).map (fun z => z ++ ("
" : Str)), rfl, rfl, .inl (SqL.of (by rw [List.map_map]; exact hD)), ?_, ?_⟩
    · have b := StrLaws.sumLen_le (B := 12011) (((allW es).map lineW).map (fun z => z ++ ("
" : Str))) (fun y hy => by
        obtain ⟨z, hz, rfl⟩ := List.mem_map.mp hy
        obtain ⟨ws, hw, rfl⟩ := List.mem_map.mp hz
        have := line_len (aw2 ws hw)
        have c : ("
" : Str).length = 1 := by decide +kernel
        rw [Str.length_append, c]
        omega)
      have c : ("" : Str).length = 0 := by decide +kernel
      rw [c]
      rw [List.length_map, List.length_map] at b ⊢
      have : (allW es).length * 12011 ≤ 624 * 12011 := Nat.mul_le_mul_right _ (by omega)
      omega
    exact q H4 (sm.trans s4)
end
end HT
namespace HT
open PySem L2 TL CwR NumText
theorem rem_pre {z : Str} {mk D : List Nat} (e : tl z = mk ++ D) (m : mk = [] ∨ mk = [45]) (d : ∀ c, D.head? = some c → c ≠ 45) (ne : D ≠ []) : tl (Txt.removeprefix z "-") = D := by
  have t : tl ("-" : Str) = [45] := by decide +kernel
  have ty : ("-" : Str).cps = #[45] := by decide +kernel
  have l1 : ("-" : Str).length = 1 := by decide +kernel
  unfold Txt.removeprefix
  have sub : Builtin.Str.subAt z "-" 0 = decide (mk = [45]) := by
    unfold Builtin.Str.subAt
    rw [l1, ty]
    have ex : (z.cps.extract 0 (0 + 1)).toList = (tl z).take 1 := by simp [tl]
    have b : (z.cps.extract 0 (0 + 1) == #[45]) = decide ((tl z).take 1 = [45]) := by
      rw [Bool.eq_iff_iff, beq_iff_eq, decide_eq_true_iff, ← ex]
      exact ⟨fun h => by rw [h], fun h => Array.toList_inj.mp h⟩
    rw [b, e]
    rcases m with rfl | rfl
    · cases D with
      | nil => exact absurd rfl ne
      | cons c D =>
        have := d c rfl
        simp [this]
    · simp
  rw [sub]
  rcases m with rfl | rfl
  · rw [if_neg (by simp)]
    exact e
  · rw [if_pos (by simp), l1]
    have zl : z.length = D.length + 1 := by rw [len_tl, e]; simp
    show tl (if (z.length - 1 == z.length) = true then z else Builtin.Str.strSub z 1 z.length) = D
    rw [if_neg (by rw [zl]; simp), tl_strSub_end, e]
    rfl
def spIsNum : Sp := fun vs H Q _ => ∃ i : Int, vs = [.str (tS i)] ∧ i.natAbs ≤ 10 ^ 40 ∧ ∀ H', Same H H' → Q (.bl true) H'
structure NumT (mg : Str → Option Value) : Prop where
  len : mg "len" = none
  all : mg "all" = none
  int : mg "int" = none
  md : ∃ t, mg "MOST_DIGITS" = some (.int 41 t)
  dg : ∃ t, mg "DIGITS" = some (.str digS t)
section
variable {P : Program} {w : World} {K : PySem.W.Frag} {mg : Str → Option Value} {base : Heap} {aN f1 f2 f3 f4 f5 : Addr} {d1 d2 d3 d4 d5 : FuncData}
theorem ok_is_number {f : Addr} {fd : FuncData} (F : Fun K "_is_number" "_is_number" s_is_number f fd) (T : NumT mg) : FnOk P w K mg base CX0 1 f fd ["word"] spIsNum := by
  refine F.ok sc_is_number (fun vs H Q E h => ?_) (fun cdv A outer s0 H vs Q E hr h => ?_)
  · obtain ⟨i, rfl, _⟩ := h
    rfl
  · obtain ⟨i, rfl, ib, q⟩ := h
    have nd := sc_is_number.nd
    obtain ⟨tmd, hmd⟩ := T.md
    obtain ⟨tdg, hdg⟩ := T.dg
    refine ⟨_, (pss_cons (ps_set (i := 1) nd rfl (Or.inl rfl) (pe_bm PySem.F.plainAttrs_str PySem.F.slot_str_removeprefix PySem.F.type_str_removeprefix mt_removeprefix (pv 0) (pa_cons pe_str pa_nil)))
      (pss_cons (ps_if (PW.pt (pw_or (pt_not (pt_chain op_le op_le pe_int (pe_callB call_len_str (by rfl) T.len PySem.boot_len (pa_cons (pv 1) pa_nil)) (pe_glob (v := .int 41) (by rfl) hmd ⟨_, rfl⟩))) (pw_or1 (pt_not (pt_val (pe_callB (cr_all rfl) (by rfl) T.all (by decide +kernel) (pa_cons (pe_lc (own := [("digit", 2)]) (g := gName 2) (tt := tYes) rfl nd (pi_str (pv 1)) (blkOk_by (N := ["word", "digits", "digit"]) (sc := defScope s_is_number) (by decide +kernel)) (fun _ _ _ _ _ => pg_name (i := 2) nd rfl (Or.inl rfl)) (fun _ _ _ _ _ => pts_nil) (fun _ _ _ _ _ => (pe_cmpR op_in_sign (pv 2) (pe_glob (v := .str digS) (by rfl) hdg ⟨_, rfl⟩) (by rfl)))) pa_nil))))))) (pss_one (ps_ret pe_bl)) pss_nil)
      (pss_one (ps_ret (pe_or (pe_cmpR op_eq (pv 0) pe_str (nomark _)) (pe_one (pe_cmpR op_ne (pe_ix ix_str (pv 1) pe_int (fun _ _ => rfl)) pe_str (nomark _)))))))), ?_⟩
    obtain ⟨mk, D, e, m, ed⟩ := tS_tl i
    have rp := rem_pre e m (fun c hc hh => by
      have := numL_digits i.natAbs c (by rw [ed] at hc; exact List.mem_of_mem_head? hc)
      omega) (by rw [ed]; exact numL_ne _)
    have dl : D.length ≤ 41 := by rw [ed]; exact numL_len (by decide) (by omega)
    have d1 : 1 ≤ D.length := by
      have := numL_ne i.natAbs
      rw [← ed] at this
      exact List.length_pos_iff.mpr this
    have dd : ∀ c ∈ D, c ∈ digS.cps.toList := fun c hc => mem_digS.mpr (by rw [ed] at hc; exact numL_digits _ c hc)
    have zo : tS i = "0" ∨ D.head? ≠ some 48 := by
      by_cases i0 : i = 0
      · exact .inl (by rw [i0]; decide +kernel)
      · exact .inr (by rw [ed]; exact numL_head _ (by omega))
    walk_at "rd"
    refine ⟨rfl, ?_⟩
    walk_at "rd"
    refine ⟨Nat.le_trans (tS_len (by omega)) (by decide), ?_⟩
    generalize Txt.removeprefix (tS i) (Str.ofString "-") = z at rp
    have zl : z.length = D.length := by rw [len_tl, rp]
    walk_at "rd"
    refine ⟨by rw [zl]; exact Nat.le_trans dl (by decide), ?_⟩
    walk_at "rd"
    refine ite2 (fun _ => ?_) (fun y => absurd (decide_eq_true (show (1 : Int) ≤ (z.length : Int) by omega)) y)
    walk_at "rd"
    refine ite2 (fun y => absurd (decide_eq_true (show (z.length : Int) ≤ 41 by omega)) (not_t y)) (fun _ => ?_)
    walk_at "rd"
    refine fun D1 nD => ?_
    refine lc_it (walk_str (z := z)) (fun j H3 => H3 D1 = some (.lst ((List.replicate j true).map V.bl)) ∧ Same H H3) ⟨upd_same, fun b u y => (upd_ne (ne_of_none y nD)).trans y⟩ (fun _ _ _ _ => trivial) ?_ ?_
    · rintro j y H3 H4 hj ⟨hD, s3⟩ ⟨rfl, c, ec, rfl⟩
      refine ⟨rfl, ?_⟩
      walk_at "rd"
      refine ⟨_, hD, ?_, ?_, fun b u y => (upd_ne (ne_of_none y nD)).trans (s3 _ _ y)⟩
      · rw [List.length_map, List.length_replicate]
        exact Nat.lt_of_lt_of_le (Nat.lt_of_lt_of_le hj (show z.cps.size ≤ 41 from by rw [show z.cps.size = z.length from rfl, zl]; exact dl)) (by decide)
      · have mc : c ∈ digS.cps.toList := dd c (by rw [← rp]; exact Array.mem_toList_iff.mpr (Array.mem_of_getElem? ec))
        rw [decide_eq_true mc, List.replicate_succ', List.map_append]
        exact upd_same
    rintro H3 ⟨hD, s3⟩
    walk_at "rd"
    refine ⟨D1, _, rfl, SqL.of hD, ?_⟩
    rw [all_rep]
    refine ⟨_, rfl, ?_⟩
    refine ite2 (fun y => absurd y (by decide)) (fun _ => ?_)
    walk_at "rd"
    refine ⟨rfl, _, rfl, ?_⟩
    refine ite2 (fun y => ?_) (fun y => ?_)
    · exact q H3 s3
    · have zn : D.head? ≠ some 48 := zo.resolve_left fun e => y (decide_eq_true (congrArg V.str e))
      obtain ⟨c, t, ct⟩ : ∃ c t, D = c :: t := by
        cases D with
        | nil => exact absurd d1 (by decide)
        | cons c t => exact ⟨c, t, rfl⟩
      have at1 : atI z.cps.toList 0 = some c := by
        unfold atI
        rw [ixN_in (Int.le_refl 0) (by rw [show z.cps.toList = D from rp]; omega)]
        show z.cps.toList[0]? = some c
        rw [show z.cps.toList = D from rp, ct]
        rfl
      walk_at "rd"
      refine ⟨z, 0, c, rfl, rfl, by rw [zl]; exact Nat.le_trans dl (by decide), at1, ?_⟩
      walk_at "rd"
      refine ⟨rfl, ?_⟩
      have ne : ¬ (V.str ⟨#[c]⟩ = V.str "0") := fun h => by
        have h2 := congrArg (fun x : Str => tl x) (V.str.inj h)
        have h3 : tl ("0" : Str) = [48] := by decide +kernel
        rw [h3] at h2
        have h4 : [c] = [48] := h2
        rw [ct] at zn
        injection h4 with h5
        exact zn (by rw [h5]; rfl)
      rw [decide_eq_false ne]
      exact q H3 s3
end
end HT
namespace HT
open PySem L2
/-- a test whose ways are joined by a statement of the heap -/
def tMidT (t : TT) : TT := fun σ H Q => ∃ M : Bool → Hp → Prop, t σ H M ∧ ∀ b H', M b H' → Q b H'
def tMidE (t : TE) : TE := fun σ H Q => ∃ M : V → Hp → Prop, t σ H M ∧ ∀ v H', M v H' → Q v H'
def tMidS (t : TS) : TS := fun D σ H => ∃ M : St → Hp → Prop, t { D with nx := M } σ H ∧ ∀ σ' H', M σ' H' → D.nx σ' H'
theorem pt_mid {X : Cx} {e : Expr} {t : TT} (h : PT X e t) : PT X e (tMidT t) :=
  ⟨fun pins s σ H _ I ⟨M, a, b⟩ => thn (h.run pins s σ H M I a) fun c _ ⟨H1, I1, q1⟩ => ⟨H1, I1, b c H1 q1⟩⟩
theorem pe_mid {X : Cx} {e : Expr} {t : TE} (h : PE X e t) : PE X e (tMidE t) :=
  ⟨fun pins s σ H _ I ⟨M, a, b⟩ => thn (h.run pins s σ H M I a) fun _ _ ⟨v, H1, I1, r, q1⟩ => ⟨v, H1, I1, r, b v H1 q1⟩⟩
theorem ps_mid {X : Cx} {st : Stmt} {t : TS} (h : PS X st t) : PS X st (tMidS t) :=
  ⟨fun pins s σ H D I ⟨M, a, b⟩ => thn (h.run pins s σ H { D with nx := M } I a) fun f _ q => by
    cases f with
    | next => obtain ⟨σ', H', I', q⟩ := q; exact ⟨σ', H', I', b σ' H' q⟩
    | brk => exact q
    | cont => exact q
    | ret v => exact q⟩
end HT
namespace HT
open PySem L2 TL CwR NumText
theorem int_back {i : Int} (h : i.natAbs ≤ 10 ^ 40) : intText? (tS i) = some i := by
  have hl : (numL i.natAbs).length ≤ 41 := numL_len (by decide) (by omega)
  cases i with
  | ofNat n => exact int_num (Nat.le_trans hl (by decide))
  | negSucc n =>
    obtain ⟨mk, D, e, m, ed⟩ := tS_tl (Int.negSucc n)
    have e2 : toString (Int.negSucc n) = "-" ++ toString (((n + 1 : Nat) : Int)) := rfl
    have e3 : (tS (Int.negSucc n)).cps.toList = 45 :: numL (n + 1) := by
      show tl (Str.ofString (toString (Int.negSucc n))) = _
      rw [e2, tl_ofString, String.toList_append, List.map_append, ← tl_ofString, ← tl_ofString, tl_num]
      rfl
    have l2 : (tS (Int.negSucc n)).length ≤ 4300 := by
      rw [len_tl, show tl (tS (Int.negSucc n)) = _ from e3, List.length_cons]
      have : (numL (n + 1)).length ≤ 41 := hl
      omega
    have := intText_neg e3 (numL_digits _) (numL_ne _) l2
    rw [this, numL_val]
    rfl
theorem tS_zero {i : Int} (h : i.natAbs ≤ 10 ^ 40) (e : tS i = ("0" : Str)) : i = 0 := by
  have a := int_back h
  have b := int_back (i := 0) (by decide)
  have z : tS 0 = ("0" : Str) := by decide +kernel
  rw [e, ← z, b] at a
  exact (Option.some.inj a).symm
def eightW (n : Str) (o s : Int) (m : Str) (pl : Nat) : List Str := [("side" : Str), n, tS s, m, "places", tS (pl : Int), "at", tS o]
def spSideEnt : Sp := fun vs H Q _ => ∃ (l : Addr) (n : Str) (o s : Int) (m : Str) (pl : Nat), vs = [.ref l] ∧ H l = some (.lst ((sideWs n o s m pl).map V.str)) ∧ SideP o s m ∧ pl ≤ 60 ∧ ∀ (p : Addr) (H' : Hp), Same H H' → EntAt H' p (.side n o s m pl) → Q (.ref p) H'
section
variable {P : Program} {w : World} {K : PySem.W.Frag} {mg : Str → Option Value} {base : Heap} {aN f1 f2 f3 f4 f5 : Addr} {d1 d2 d3 d4 d5 : FuncData}
theorem ok_side_entry {f : Addr} {fd : FuncData} (F : Fun K "_side_entry_of" "_side_entry_of" s_side_entry_of f fd) (T : NumT mg) (long : ∀ X : Cx, X.K = K → CallR X (.type "int") (fun xs H Q => ∃ a n, xs = [.str a] ∧ PySem.intText? a = some n ∧ a.length ≤ 2000 ∧ Q (.int n) H)) (Nu : Cal P w K mg base "_is_number" 1 ["word"] spIsNum f1 d1) : FnOk P w K mg base CX0 2 f fd ["words"] spSideEnt := by
  refine F.ok sc_side_entry_of (fun vs H Q E h => ?_) (fun cdv A outer s0 H vs Q E hr h => ?_)
  · obtain ⟨l, n, o, s, m, pl, rfl, _⟩ := h
    rfl
  · obtain ⟨l, n, o, s, m, pl, rfl, hl, sp, p60, q⟩ := h
    have so0 := sp.o0
    have so1 := sp.o1
    have ss0 := sp.s0
    have ss1 := sp.s1
    have nd := sc_side_entry_of.nd
    refine ⟨_, (pss_cons (ps_mid (ps_if (pt_cmpR op_eq (pe_callB call_len_seq (by rfl) T.len PySem.boot_len (pa_cons (pv 0) pa_nil)) pe_int (nomark _)) (pss_one (ps_set (i := 0) nd rfl (Or.inl rfl) (pe_op op_cat (pv 0) (pe_lst (pa_cons pe_str (pa_cons pe_str pa_nil)))))) (pss_one (ps_if (PW.pt (pw_or (pt_cmpR op_ne (pe_callB call_len_seq (by rfl) T.len PySem.boot_len (pa_cons (pv 0) pa_nil)) pe_int (nomark _)) (pw_or1 (pt_cmpR op_eq (pe_ix ix_list (pv 0) pe_int (fun _ _ => rfl)) pe_str (nomark _))))) (pss_one (ps_ret pe_non)) pss_nil))))
      (pss_cons (ps_asg (pv 0) (pg_unl (n := 8) (by rfl) (pgs_cons (pg_name (i := 1) nd rfl (Or.inl rfl)) (pgs_cons (pg_name (i := 2) nd rfl (Or.inl rfl)) (pgs_cons (pg_name (i := 3) nd rfl (Or.inl rfl)) (pgs_cons (pg_name (i := 4) nd rfl (Or.inl rfl)) (pgs_cons (pg_name (i := 5) nd rfl (Or.inl rfl)) (pgs_cons (pg_name (i := 6) nd rfl (Or.inl rfl)) (pgs_cons (pg_name (i := 7) nd rfl (Or.inl rfl)) (pgs_cons (pg_name (i := 8) nd rfl (Or.inl rfl)) pgs_nil))))))))))
      (pss_cons (ps_if (PW.pt (pw_or (pt_cmpR op_ne (pv 5) pe_str (nomark _)) (pw_or (pt_cmpR op_ne (pv 7) pe_str (nomark _)) (pw_or1 (pt_not (pt_val (pe_callB (cr_all rfl) (by rfl) T.all (by decide +kernel) (pa_cons (pe_lc (own := [("word", 9)]) (g := gName 9) (tt := tYes) rfl nd (pi_tup (pe_tup (pa_cons (pv 3) (pa_cons (pv 6) (pa_cons (pv 8) pa_nil))))) (blkOk_by (N := ["words", "_", "name", "step", "mode", "places_word", "places", "at_word", "offset", "word"]) (sc := defScope s_side_entry_of) (by decide +kernel)) (fun _ _ _ _ _ => pg_name (i := 9) nd rfl (Or.inl rfl)) (fun _ _ _ _ _ => pts_nil) (fun _ _ _ _ _ => (pcl Nu hr (by decide) (by rfl) (pa_cons (pv 9) pa_nil)))) pa_nil)))))))) (pss_one (ps_ret pe_non)) pss_nil)
      (pss_one (ps_ret (pe_tup (pa_cons pe_str (pa_cons (pv 2) (pa_cons (pe_tup (pa_cons (pe_callTy (long _ rfl) (by rfl) T.int (by decide +kernel) (pa_cons (pv 8) pa_nil)) (pa_cons (pe_callTy (long _ rfl) (by rfl) T.int (by decide +kernel) (pa_cons (pv 3) pa_nil)) (pa_cons (pv 4) pa_nil)))) (pa_cons (pe_callTy (long _ rfl) (by rfl) T.int (by decide +kernel) (pa_cons (pv 6) pa_nil)) pa_nil)))))))))), ?_⟩
    walk_at "rd"
    refine ⟨fun st H1 => ∃ l1, st = [some (.ref l1), none, none, none, none, none, none, none, none, none] ∧ H1 l1 = some (.lst ((eightW n o s m pl).map V.str)) ∧ Same H H1, ?_, ?_⟩
    · by_cases o0 : o = 0
      · unfold sideWs at hl
        rw [if_pos o0, List.append_nil] at hl
        walk_at "rd"
        refine ⟨l, _, rfl, .inl (SqL.of hl), ?_⟩
        walk_at "rd"
        refine ⟨rfl, _, rfl, ?_⟩
        refine ite2 (fun _ => ?_) (fun z => absurd (decide_eq_true rfl) z)
        walk_at "rd"
        refine ⟨(by show 2 ≤ sizeLine; decide), fun p1 np1 => ?_⟩
        generalize e1 : upd H p1 _ = H1
        have g1 : H1 p1 = some (.lst [.str "at", .str "0"]) := by rw [← e1]; exact upd_same
        have s1 : Same H H1 := by rw [← e1]; exact fun b u z => (upd_ne (ne_of_none z np1)).trans z
        clear e1
        refine ⟨l, p1, _, _, rfl, rfl, s1 _ _ hl, g1, (by show 8 ≤ sizeLine; decide), fun p2 np2 => ?_⟩
        refine ⟨p2, rfl, ?_, fun b u z => (upd_ne (ne_of_none (s1 _ _ z) np2)).trans (s1 _ _ z)⟩
        rw [upd_same, o0]
        rfl
      · unfold sideWs at hl
        rw [if_neg o0] at hl
        walk_at "rd"
        refine ⟨l, _, rfl, .inl (SqL.of hl), ?_⟩
        walk_at "rd"
        refine ⟨rfl, _, rfl, ?_⟩
        refine ite2 (fun z => absurd z (show ¬ decide (V.int 8 = V.int 6) = true from by decide +kernel)) (fun _ => ?_)
        walk_at "rd"
        refine ⟨l, _, rfl, .inl (SqL.of hl), ?_⟩
        walk_at "rd"
        refine ⟨rfl, _, rfl, ?_⟩
        refine ite2 (fun z => absurd z (show ¬ (!decide (V.int 8 = V.int 8)) = true from by decide +kernel)) (fun _ => ?_)
        walk_at "rd"
        refine ⟨l, _, _, _, rfl, rfl, SqL.of hl, at_nat (k := 7) rfl, ?_⟩
        walk_at "rd"
        refine ⟨rfl, _, rfl, ?_⟩
        refine ite2 (fun z => absurd (tS_zero (by omega) (str_t z)) o0) (fun _ => ?_)
        exact ⟨l, rfl, hl, Same.refl H⟩
    rintro st H1 ⟨l1, rfl, hl1, s1⟩
    walk_at "rd"
    refine ⟨l1, _, rfl, SqL.of hl1, rfl, _, _, rfl, _, _, rfl, _, _, rfl, _, _, rfl, _, _, rfl, _, _, rfl, _, _, rfl, _, _, rfl, rfl, ?_⟩
    walk_at "rd"
    refine ⟨rfl, _, rfl, ?_⟩
    refine ite2 (fun z => absurd z (by decide +kernel)) (fun _ => ?_)
    walk_at "rd"
    refine ⟨rfl, _, rfl, ?_⟩
    refine ite2 (fun z => absurd z (by decide +kernel)) (fun _ => ?_)
    walk_at "rd"
    refine ⟨(by show 3 ≤ sizeLine; decide), fun tq ntq => ?_⟩
    generalize e2 : upd H1 tq _ = H2
    have g2 : H2 tq = some (.tup [.str (tS s), .str (tS (pl : Int)), .str (tS o)]) := by rw [← e2]; exact upd_same
    have s2 : Same H1 H2 := by rw [← e2]; exact fun b u z => (upd_ne (ne_of_none z ntq)).trans z
    clear e2
    walk_at "rd"
    refine ⟨⟨_, SqT.of g2⟩, fun D nD => ?_⟩
    refine lc_it (walk_tup (K := K) (a := tq) (xs := [.str (tS s), .str (tS (pl : Int)), .str (tS o)])) (fun j H3 => H3 D = some (.lst ((List.replicate j true).map V.bl)) ∧ Same H2 H3) ⟨upd_same, fun b u z => (upd_ne (ne_of_none z nD)).trans z⟩ (fun _ _ _ ⟨_, s3⟩ => SqT.of (s3 _ _ g2)) ?_ ?_
    · rintro j y H3 H4 hj ⟨hD, s3⟩ ⟨rfl, ey⟩
      have yy : ∃ i : Int, y = .str (tS i) ∧ i.natAbs ≤ 10 ^ 40 := by
        match j, ey with
        | 0, ey => cases ey; exact ⟨s, rfl, by omega⟩
        | 1, ey => cases ey; exact ⟨(pl : Int), rfl, by omega⟩
        | 2, ey => cases ey; exact ⟨o, rfl, by omega⟩
        | j + 3, ey => cases ey
      obtain ⟨i, rfl, ib⟩ := yy
      refine ⟨rfl, ?_⟩
      walk_at "rd"
      refine ⟨ib, fun H5 s5 => ?_⟩
      refine ⟨_, s5 _ _ hD, ?_, ?_, fun b u z => (upd_ne (ne_of_none z nD)).trans (s5 _ _ (s3 _ _ z))⟩
      · rw [List.length_map, List.length_replicate]
        exact Nat.lt_of_lt_of_le hj (by show 3 ≤ sizeLine; decide)
      · rw [List.replicate_succ', List.map_append]
        exact upd_same
    rintro H3 ⟨hD, s3⟩
    walk_at "rd"
    refine ⟨D, _, rfl, SqL.of hD, ?_⟩
    rw [all_rep]
    refine ⟨_, rfl, ?_⟩
    refine ite2 (fun y => absurd y (by decide)) (fun _ => ?_)
    walk_at "rd"
    refine ⟨_, o, rfl, int_back (by omega), Nat.le_trans (tS_len (by omega)) (by decide), ?_⟩
    walk_at "rd"
    refine ⟨_, s, rfl, int_back (by omega), Nat.le_trans (tS_len (by omega)) (by decide), ?_⟩
    walk_at "rd"
    refine ⟨(by show 3 ≤ sizeLine; decide), fun qs nqs => ?_⟩
    generalize e4 : upd H3 qs _ = H4
    have g4 : H4 qs = some (sideV o s m) := by rw [← e4]; exact upd_same
    have s4 : Same H3 H4 := by rw [← e4]; exact fun b u z => (upd_ne (ne_of_none z nqs)).trans z
    clear e4
    walk_at "rd"
    refine ⟨_, (pl : Int), rfl, int_back (by omega), Nat.le_trans (tS_len (by omega)) (by decide), ?_⟩
    walk_at "rd"
    refine ⟨(by show 4 ≤ sizeLine; decide), fun pe npe => ?_⟩
    have s5 : Same H4 (upd H4 pe (.tup [.str "side", .str n, .ref qs, .int (pl : Int)])) := fun b u z => (upd_ne (ne_of_none z npe)).trans z
    exact q pe _ (s1.trans (s2.trans (s3.trans (s4.trans s5)))) ⟨qs, upd_same, s5 _ _ g4⟩
end
end HT
namespace HT
open PySem L2 TL
/-- the entry that a line opens, by its words -/
def headE : Ent → Ent
  | .log n g _ => .log n g []
  | e => e
def headW : Ent → List Str
  | .side n o s m pl => sideWs n o s m pl
  | .set n ns => ("set" : Str) :: n :: ns
  | .log n g _ => [("log" : Str), n, g]
theorem cut_two (a b : V) (xs : List V) : cutV (a :: b :: xs) (some 2) none = xs := by
  have e : cutV (a :: b :: xs) (some 2) none = ((a :: b :: xs).drop (min 2 (a :: b :: xs).length)).take ((a :: b :: xs).length - min 2 (a :: b :: xs).length) := rfl
  rw [e, show min 2 (a :: b :: xs).length = 2 from Nat.min_eq_left (by simp)]
  show xs.take ((xs.length + 1 + 1) - 2) = xs
  rw [show xs.length + 1 + 1 - 2 = xs.length by omega, List.take_length]
def spEntry : Sp := fun vs H Q _ => ∃ (l : Addr) (e : Ent) (es : List Ent), vs = [.ref l] ∧ H l = some (.lst ((headW e).map V.str)) ∧ EntOk es e ∧ ∀ (p : Addr) (H' : Hp), Same H H' → EntAt H' p (headE e) → Q (.ref p) H'
section
variable {P : Program} {w : World} {K : PySem.W.Frag} {mg : Str → Option Value} {base : Heap} {aN f1 f2 f3 f4 f5 : Addr} {d1 d2 d3 d4 d5 : FuncData}
theorem ok_entry_of {f : Addr} {fd : FuncData} (F : Fun K "_entry_of" "_entry_of" s_entry_of f fd) (T : EnT K mg aN) (Se : Cal P w K mg base "_side_entry_of" 2 ["words"] spSideEnt f1 d1) : FnOk P w K mg base CX0 3 f fd ["words"] spEntry := by
  refine F.ok sc_entry_of (fun vs H Q E h => ?_) (fun cdv A outer s0 H vs Q E hr h => ?_)
  · obtain ⟨l, e, es, rfl, _⟩ := h
    rfl
  · obtain ⟨l, e, es, rfl, hl, ok, q⟩ := h
    have nd := sc_entry_of.nd
    refine ⟨_, (pss_cons (ps_if (pt_cmpR op_eq (pe_ix ix_list (pv 0) pe_int (fun _ _ => rfl)) pe_str (nomark _)) (pss_one (ps_ret (pcl Se hr (by decide) (by rfl) (pa_cons (pv 0) pa_nil)))) pss_nil)
      (pss_cons (ps_if (PW.pt (pw_and (pt_cmpR op_eq (pe_ix ix_list (pv 0) pe_int (fun _ _ => rfl)) pe_str (nomark _)) (pw_and1 (pt_cmpR op_gt (pe_callB call_len_seq (by rfl) T.len PySem.boot_len (pa_cons (pv 0) pa_nil)) pe_int (nomark _))))) (pss_one (ps_ret (pe_tup (pa_cons pe_str (pa_cons (pe_ix ix_list (pv 0) pe_int (fun _ _ => rfl)) (pa_cons (pe_callTy call_tuple_of (by rfl) T.tuple (by decide +kernel) (pa_cons (pe_slice (show SlR _ (rSlL K) from sl_list) (pv 0) (po_some pe_int) po_none) pa_nil)) pa_nil)))))) pss_nil)
      (pss_cons (ps_if (PW.pt (pw_and (pt_cmpR op_eq (pe_ix ix_list (pv 0) pe_int (fun _ _ => rfl)) pe_str (nomark _)) (pw_and1 (pt_cmpR op_eq (pe_callB call_len_seq (by rfl) T.len PySem.boot_len (pa_cons (pv 0) pa_nil)) pe_int (nomark _))))) (pss_one (ps_ret (pe_tup (pa_cons pe_str (pa_cons (pe_ix ix_list (pv 0) pe_int (fun _ _ => rfl)) (pa_cons (pe_ix ix_list (pv 0) pe_int (fun _ _ => rfl)) (pa_cons (pe_tup pa_nil) pa_nil))))))) pss_nil)
      (pss_one (ps_ret pe_non))))), ?_⟩
    walk_at "rd"
    cases e with
    | side n o s m pl =>
      refine ⟨l, _, _, .str "side", rfl, rfl, SqL.of hl, at_nat (k := 0) rfl, ?_⟩
      walk_at "rd"
      refine ⟨rfl, _, rfl, ?_⟩
      refine ite2 (fun _ => ?_) (fun z => absurd (decide_eq_true rfl) z)
      walk_at "rd"
      exact ⟨l, n, o, s, m, pl, rfl, hl, ok.2.2.1, ok.2.2.2, fun p H' s' ea => q p H' s' ea⟩
    | set n ns =>
      have n1 := ok.2.2.1
      have n4 := ok.2.2.2.1
      refine ⟨l, _, _, .str "set", rfl, rfl, SqL.of hl, at_nat (k := 0) rfl, ?_⟩
      walk_at "rd"
      refine ⟨rfl, _, rfl, ?_⟩
      refine ite2 (fun z => absurd z (by decide +kernel)) (fun _ => ?_)
      walk_at "rd"
      refine ⟨l, _, _, .str "set", rfl, rfl, SqL.of hl, at_nat (k := 0) rfl, ?_⟩
      walk_at "rd"
      refine ⟨rfl, _, rfl, ?_⟩
      refine ite2 (fun _ => ?_) (fun z => absurd (decide_eq_true rfl) z)
      walk_at "rd"
      refine ⟨l, _, rfl, .inl (SqL.of hl), ?_⟩
      walk_at "rd"
      refine ite2 (fun _ => ?_) (fun z => absurd (decide_eq_true (show (2 : Int) < ((((ns.map V.str).length + 1 + 1 : Nat)) : Int) by rw [List.length_map]; omega)) z)
      walk_at "rd"
      refine ⟨l, _, _, .str n, rfl, rfl, SqL.of hl, at_nat (k := 1) rfl, ?_⟩
      walk_at "rd"
      refine ⟨l, _, rfl, SqL.of hl, fun cu ncu => ?_⟩
      generalize e1 : upd H cu _ = H1
      have g1 : H1 cu = some (.lst (ns.map V.str)) := by
        rw [← e1, upd_same]
        congr 2
        exact cut_two _ _ _
      have s1 : Same H H1 := by rw [← e1]; exact fun b u z => (upd_ne (ne_of_none z ncu)).trans z
      clear e1
      walk_at "rd"
      refine ⟨cu, _, rfl, .inl ⟨SqL.of g1, fun tp ntp => ?_⟩⟩
      generalize e2 : upd H1 tp _ = H2
      have g2 : H2 tp = some (.tup (ns.map V.str)) := by rw [← e2]; exact upd_same
      have s2 : Same H1 H2 := by rw [← e2]; exact fun b u z => (upd_ne (ne_of_none z ntp)).trans z
      clear e2
      walk_at "rd"
      refine ⟨(by show 3 ≤ sizeLine; decide), fun p np => ?_⟩
      have s3 : Same H2 (upd H2 p (.tup [.str "set", .str n, .ref tp])) := fun b u z => (upd_ne (ne_of_none z np)).trans z
      exact q p _ (s1.trans (s2.trans s3)) ⟨tp, upd_same, s3 _ _ g2⟩
    | log n g ls =>
      refine ⟨l, _, _, .str "log", rfl, rfl, SqL.of hl, at_nat (k := 0) rfl, ?_⟩
      walk_at "rd"
      refine ⟨rfl, _, rfl, ?_⟩
      refine ite2 (fun z => absurd z (by decide +kernel)) (fun _ => ?_)
      walk_at "rd"
      refine ⟨l, _, _, .str "log", rfl, rfl, SqL.of hl, at_nat (k := 0) rfl, ?_⟩
      walk_at "rd"
      refine ⟨rfl, _, rfl, ?_⟩
      refine ite2 (fun z => absurd z (by decide +kernel)) (fun _ => ?_)
      walk_at "rd"
      refine ⟨l, _, _, .str "log", rfl, rfl, SqL.of hl, at_nat (k := 0) rfl, ?_⟩
      walk_at "rd"
      refine ⟨rfl, _, rfl, ?_⟩
      refine ite2 (fun _ => ?_) (fun z => absurd (decide_eq_true rfl) z)
      walk_at "rd"
      refine ⟨l, _, rfl, .inl (SqL.of hl), ?_⟩
      walk_at "rd"
      refine ⟨rfl, _, rfl, ?_⟩
      refine ite2 (fun _ => ?_) (fun z => absurd (decide_eq_true rfl) z)
      walk_at "rd"
      refine ⟨l, _, _, .str n, rfl, rfl, SqL.of hl, at_nat (k := 1) rfl, ?_⟩
      walk_at "rd"
      refine ⟨l, _, _, .str g, rfl, rfl, SqL.of hl, at_nat (k := 2) rfl, ?_⟩
      walk_at "rd"
      refine ⟨(by show 0 ≤ sizeLine; decide), fun tp ntp => ?_⟩
      generalize e2 : upd H tp _ = H2
      have g2 : H2 tp = some (.tup []) := by rw [← e2]; exact upd_same
      have s2 : Same H H2 := by rw [← e2]; exact fun b u z => (upd_ne (ne_of_none z ntp)).trans z
      clear e2
      walk_at "rd"
      refine ⟨(by show 4 ≤ sizeLine; decide), fun p np => ?_⟩
      have s3 : Same H2 (upd H2 p (.tup [.str "log", .str n, .str g, .ref tp])) := fun b u z => (upd_ne (ne_of_none z np)).trans z
      exact q p _ (s2.trans s3) ⟨tp, [], upd_same, s3 _ _ g2, rfl, fun i a l z _ => by cases z⟩
end
end HT
namespace HT
open PySem L2 TL
/-- what stands of a reader at x: the entries told, the dict of them, the lines of the log that is open -/
structure RdrAt (D : Addr) (H : Hp) (x le ll ld : Addr) (lg : V) (es : List Ent) (ls : List (Str × Str)) : Prop where
  ob : ∃ dx, H x = some (.ins D dx [("entries", .ref le), ("log", lg), ("_lines", .ref ll), ("_known", .ref ld)])
  ne : le ≠ ll
  en : ∃ ps : List Addr, ps.length = es.length ∧ H le = some (.lst (ps.map V.ref)) ∧ H ld = some (.dK (zipK es ps)) ∧ ∀ (i : Nat) (p : Addr) (e : Ent), ps[i]? = some p → es[i]? = some e → EntAt H p e
  li : ∃ qs : List Addr, qs.length = ls.length ∧ H ll = some (.lst (qs.map V.ref)) ∧ ∀ (i : Nat) (a : Addr) (l : Str × Str), qs[i]? = some a → ls[i]? = some l → H a = some (.tup [.str l.1, .str l.2])
/-- nothing else is touched -/
def FrR (x le ll ld : Addr) (H H' : Hp) : Prop := ∀ b u, H b = some u → b ≠ x → b ≠ le → b ≠ ll → b ≠ ld → H' b = some u
def spAdd (D : Addr) : Sp := fun vs H Q _ => ∃ (x le ll ld p : Addr) (lg : V) (es : List Ent) (ls : List (Str × Str)) (e : Ent), vs = [.ref x, .ref p] ∧ RdrAt D H x le ll ld lg es ls ∧ EntAt H p e ∧ EntOk es e ∧ es.length ≤ 1000 ∧
  ∀ H', RdrAt D H' x le ll ld lg (es ++ [e]) ls → FrR x le ll ld H H' → Q .non H'
theorem EntAt.fr {x le ll ld p : Addr} {H H' : Hp} {e : Ent} {D dx : Addr} {fs : List (Str × V)} {as bs : List V} {kvs : List (Key × V)} (h : EntAt H p e) (hx : H x = some (.ins D dx fs)) (h1 : H le = some (.lst as)) (h2 : H ll = some (.lst bs)) (h3 : H ld = some (.dK kvs)) (f : FrR x le ll ld H H') : EntAt H' p e := by
  have t : ∀ b xs, H b = some (.tup xs) → H' b = some (.tup xs) := fun b xs hb => f b _ hb (fun z => by rw [z, hx] at hb; cases hb) (fun z => by rw [z, h1] at hb; cases hb) (fun z => by rw [z, h2] at hb; cases hb) (fun z => by rw [z, h3] at hb; cases hb)
  cases e with
  | side n o s m pl => obtain ⟨q, a, b⟩ := h; exact ⟨q, t _ _ a, t _ _ b⟩
  | set n ns => obtain ⟨q, a, b⟩ := h; exact ⟨q, t _ _ a, t _ _ b⟩
  | log n g ls => obtain ⟨q, ps, a, b, c, d⟩ := h; exact ⟨q, ps, t _ _ a, t _ _ b, c, fun i y l ey el => t _ _ (d i y l ey el)⟩
section
variable {P : Program} {w : World} {K : PySem.W.Frag} {mg : Str → Option Value} {base : Heap} {D f1 f2 f3 f4 f5 : Addr} {d1 d2 d3 d4 d5 : FuncData}
theorem ok_R_add {f : Addr} {fd : FuncData} (F : Fun K "_add" "Reader._add" s_R_add f fd) (c : Cls K D) (n1 : NoAttr K D "entries") (n4 : NoAttr K D "_known") : FnOk P w K mg base CX0 1 f fd ["self", "entry"] (spAdd D) := by
  refine F.ok sc_R_add (fun vs H Q E h => ?_) (fun cdv A outer s0 H vs Q E hr h => ?_)
  · obtain ⟨x, le, ll, ld, p, lg, es, ls, e, rfl, _⟩ := h
    rfl
  · obtain ⟨x, le, ll, ld, p, lg, es, ls, e, rfl, R, ea, ok, l1000, q⟩ := h
    have nd := sc_R_add.nd
    refine ⟨_, pss_cons (ps_dput (lt1 hr.units) (pe_fld (pv 0) (by rfl)) (pe_ix ix_tup (pv 1) pe_int (fun _ _ => rfl)) (pv 1) (by rfl))
      (pss_one (ps_expr (pe_bm PySem.F.plainAttrs_list PySem.F.slot_list_append PySem.F.type_list_append mt_append (pe_fld (pv 0) (by rfl)) (pa_cons (pv 1) pa_nil)))), ?_⟩
    obtain ⟨⟨dx, hx⟩, ne, ⟨ps, lps, hle, hld, at_⟩, ⟨qs, lqs, hll, aq⟩⟩ := R
    walk_at "rd"
    obtain ⟨fn, ff⟩ := ok.fresh
    have e1 : ∃ xs, H p = some (.tup (.str e.kind :: .str e.name :: xs)) := by
      cases e with
      | side n o s m pl => obtain ⟨q, a, b⟩ := ea; exact ⟨_, a⟩
      | set n ns => obtain ⟨q, a, b⟩ := ea; exact ⟨_, a⟩
      | log n g ls => obtain ⟨q, ps, a, b, c, d⟩ := ea; exact ⟨_, a⟩
    obtain ⟨xs, hp⟩ := e1
    refine ⟨x, D, dx, _, .ref ld, rfl, hx, c, n4, rfl, ?_⟩
    walk_at "rd"
    refine ⟨p, _, _, _, rfl, rfl, SqT.of hp, at_nat (k := 1) rfl, ?_⟩
    refine ⟨ld, _, rfl, DPut.k (k := .inr e.name) hld ?_, ?_⟩
    · rw [List.length_map, List.length_zip]
      exact Nat.lt_of_le_of_lt (by omega : _ ≤ 1000) (by decide)
    rw [put_fresh lps ff]
    have nx : x ≠ ld := ne_of hx hld (by intro z; cases z)
    have nle : le ≠ ld := ne_of hle hld (by intro z; cases z)
    have nll : ll ≠ ld := ne_of hll hld (by intro z; cases z)
    have nxe : x ≠ le := ne_of hx hle (by intro z; cases z)
    have nxl : x ≠ ll := ne_of hx hll (by intro z; cases z)
    generalize e2 : upd H ld _ = H1
    have k1 : ∀ b u, b ≠ ld → H b = some u → H1 b = some u := fun b u hb z => by rw [← e2]; exact (upd_ne hb).trans z
    have g1 : H1 ld = some (.dK (zipK es ps ++ [(.inr e.name, .ref p)])) := by rw [← e2]; exact upd_same
    clear e2
    have hx1 := k1 _ _ nx hx
    walk_at "rd"
    refine ⟨x, D, dx, _, .ref le, rfl, hx1, c, n1, rfl, ?_⟩
    refine ⟨.inl ⟨rfl, _, SqL.of (k1 _ _ nle hle)⟩, ?_⟩
    walk_at "rd"
    refine ⟨le, _, _, rfl, rfl, k1 _ _ nle hle, ?_, ?_⟩
    · rw [List.length_map]
      exact Nat.lt_of_le_of_lt (by omega : _ ≤ 1000) (by decide)
    generalize e3 : upd H1 le _ = H2
    have k2 : ∀ b u, b ≠ le → H1 b = some u → H2 b = some u := fun b u hb z => by rw [← e3]; exact (upd_ne hb).trans z
    have g2 : H2 le = some (.lst ((ps ++ [p]).map V.ref)) := by rw [← e3, upd_same, List.map_append]; rfl
    clear e3
    have fr : FrR x le ll ld H H2 := fun b u z n1 n2 n3 n4 => k2 b u n2 (k1 b u n4 z)
    have kt : ∀ b xs, H b = some (.tup xs) → H2 b = some (.tup xs) := fun b xs hb => fr b _ hb (fun z => by rw [z, hx] at hb; cases hb) (fun z => by rw [z, hle] at hb; cases hb) (fun z => by rw [z, hll] at hb; cases hb) (fun z => by rw [z, hld] at hb; cases hb)
    refine q H2 ⟨⟨dx, k2 _ _ nxe hx1⟩, ne, ⟨ps ++ [p], ?_, g2, ?_, ?_⟩, ⟨qs, lqs, k2 _ _ (fun z => ne z.symm) (k1 _ _ nll hll), fun i a l ia il => kt _ _ (aq i a l ia il)⟩⟩ fr
    · rw [List.length_append, List.length_append, lps]
      rfl
    · rw [k2 _ _ nle.symm g1]
      show some (HO.dK _) = some (HO.dK _)
      congr 2
      show _ = List.map _ _
      rw [List.zip_append lps.symm, List.map_append]
      rfl
    · intro i y e' iy ie
      rcases Nat.lt_or_ge i ps.length with h | h
      · rw [List.getElem?_append_left h] at iy
        rw [List.getElem?_append_left (by omega)] at ie
        exact (at_ i y e' iy ie).fr hx hle hll hld fr
      · rw [List.getElem?_append_right h] at iy
        rw [List.getElem?_append_right (by omega)] at ie
        rw [lps] at iy
        cases hk : i - es.length with
        | zero =>
          rw [hk] at iy ie
          cases iy
          cases ie
          exact ea.fr hx hle hll hld fr
        | succ k =>
          rw [hk] at iy
          cases iy
end
end HT
namespace HT
open PySem L2 TL
theorem RdrAt.known {D : Addr} {H : Hp} {x le ll ld : Addr} {lg : V} {es : List Ent} {ls : List (Str × Str)} (R : RdrAt D H x le ll ld lg es ls) : KnownAt H ld es := let ⟨ps, a, _, b, c⟩ := R.en; ⟨ps, a, b, c⟩
theorem RdrAt.same {D : Addr} {H H' : Hp} {x le ll ld : Addr} {lg : V} {es : List Ent} {ls : List (Str × Str)} (R : RdrAt D H x le ll ld lg es ls) (s : Same H H') : RdrAt D H' x le ll ld lg es ls := by
  obtain ⟨⟨dx, hx⟩, ne, ⟨ps, lps, hle, hld, at_⟩, ⟨qs, lqs, hll, aq⟩⟩ := R
  exact ⟨⟨dx, s _ _ hx⟩, ne, ⟨ps, lps, s _ _ hle, s _ _ hld, fun i p e a b => (at_ i p e a b).same s⟩, ⟨qs, lqs, s _ _ hll, fun i a l e f => s _ _ (aq i a l e f)⟩⟩
/-- to another open log: the field is set anew -/
theorem RdrAt.log {D : Addr} {H H' : Hp} {x le ll ld : Addr} {lg lg' : V} {es : List Ent} {ls : List (Str × Str)} (R : RdrAt D H x le ll ld lg es ls) {dx : Addr} (h : H' x = some (.ins D dx [("entries", .ref le), ("log", lg'), ("_lines", .ref ll), ("_known", .ref ld)])) (k : ∀ b u, b ≠ x → H b = some u → H' b = some u) : RdrAt D H' x le ll ld lg' es ls := by
  obtain ⟨⟨dx, hx⟩, ne, ⟨ps, lps, hle, hld, at_⟩, ⟨qs, lqs, hll, aq⟩⟩ := R
  have n1 : le ≠ x := ne_of hle hx (by intro z; cases z)
  have n2 : ll ≠ x := ne_of hll hx (by intro z; cases z)
  have n3 : ld ≠ x := ne_of hld hx (by intro z; cases z)
  have t : ∀ b xs, H b = some (.tup xs) → H' b = some (.tup xs) := fun b xs hb => k b _ (fun z => by rw [z, hx] at hb; cases hb) hb
  refine ⟨⟨_, h⟩, ne, ⟨ps, lps, k _ _ n1 hle, k _ _ n3 hld, fun i p e a b => ?_⟩, ⟨qs, lqs, k _ _ n2 hll, fun i a l e f => t _ _ (aq i a l e f)⟩⟩
  have ea := at_ i p e a b
  cases e with
  | side n o s m pl => obtain ⟨q, a, b⟩ := ea; exact ⟨q, t _ _ a, t _ _ b⟩
  | set n ns => obtain ⟨q, a, b⟩ := ea; exact ⟨q, t _ _ a, t _ _ b⟩
  | log n g ls => obtain ⟨q, ps, a, b, c, d⟩ := ea; exact ⟨q, ps, t _ _ a, t _ _ b, c, fun i y l ey el => t _ _ (d i y l ey el)⟩
def spEnd (D : Addr) : Sp := fun vs H Q _ => ∃ (x le ll ld p : Addr) (v : V) (n g : Str) (es : List Ent) (ls : List (Str × Str)), vs = [.ref x] ∧ RdrAt D H x le ll ld (.ref p) es ls ∧ H p = some (.tup [.str "log", .str n, .str g, v]) ∧ EntOk es (.log n g ls) ∧ es.length ≤ 1000 ∧
  ∀ H', RdrAt D H' x le ll ld .non (es ++ [.log n g ls]) ls → FrR x le ll ld H H' → Q .non H'
section
variable {P : Program} {w : World} {K : PySem.W.Frag} {mg : Str → Option Value} {base : Heap} {aN D f1 f2 f3 f4 f5 : Addr} {d1 d2 d3 d4 d5 : FuncData}
theorem ok_R_end {f : Addr} {fd : FuncData} (F : Fun K "_fault_of_end" "Reader._fault_of_end" s_R_end f fd) (T : EnT K mg aN) (c : Cls K D) (n2 : NoAttr K D "log") (n3 : NoAttr K D "_lines") (M : Meth K D "_add" f1) (Ad : FnOk P w K mg base CX0 1 f1 d1 ["self", "entry"] (spAdd D)) (ba : Binds K d1 ["self", "entry"] []) : FnOk P w K mg base CX0 2 f fd ["self"] (spEnd D) := by
  refine F.ok sc_R_end (fun vs H Q E h => ?_) (fun cdv A outer s0 H vs Q E hr h => ?_)
  · obtain ⟨x, le, ll, ld, p, v, n, g, es, ls, rfl, _⟩ := h
    rfl
  · obtain ⟨x, le, ll, ld, p, v, n, g, es, ls, rfl, R, hp, ok, l1000, q⟩ := h
    have nd := sc_R_end.nd
    obtain ⟨tsn, hsn⟩ := T.sn
    refine ⟨_, pss_cons (ps_if (pt_cmpR op_gt (pe_callB call_len_seq (by rfl) T.len PySem.boot_len (pa_cons (pe_fld (pv 0) (by rfl)) pa_nil)) (pe_glob (v := .int 50) (by rfl) hsn ⟨_, rfl⟩) (nomark _)) (pss_one (ps_ret pe_str)) pss_nil)
      (pss_cons (ps_asg (pe_fld (pv 0) (by rfl)) (pg_tup (by rfl) (pgs_cons (pg_name (i := 1) nd rfl (Or.inl rfl)) (pgs_cons (pg_name (i := 2) nd rfl (Or.inl rfl)) (pgs_cons (pg_name (i := 3) nd rfl (Or.inl rfl)) (pgs_cons (pg_name (i := 4) nd rfl (Or.inl rfl)) pgs_nil))))))
      (pss_cons (ps_expr (pe_meth (pv 0) c M Ad (hr.mono (by decide)) ba .nil pass0 (pa_cons (pe_tup (pa_cons (pv 1) (pa_cons (pv 2) (pa_cons (pv 3) (pa_cons (pe_callTy call_tuple_of (by rfl) T.tuple (by decide +kernel) (pa_cons (pe_fld (pv 0) (by rfl)) pa_nil)) pa_nil))))) pa_nil)))
      (pss_cons (ps_fld (pv 0) pe_non (by rfl)) (pss_one (ps_ret pe_non))))), ?_⟩
    obtain ⟨⟨dx, hx⟩, ne, ⟨ps, lps, hle, hld, at_⟩, ⟨qs, lqs, hll, aq⟩⟩ := id R
    have l50 := ok.2.2.2.1
    walk_at "rd"
    refine ⟨x, D, dx, _, .ref ll, rfl, hx, c, n3, rfl, ?_⟩
    refine ⟨ll, _, rfl, .inl (SqL.of hll), ?_⟩
    walk_at "rd"
    refine ite2 (fun z => absurd (of_decide_eq_true z) (by rw [List.length_map]; omega)) (fun _ => ?_)
    walk_at "rd"
    refine ⟨x, D, dx, _, .ref p, rfl, hx, c, n2, rfl, ?_⟩
    refine ⟨p, _, rfl, SqT.of hp, rfl, _, _, rfl, _, _, rfl, _, _, rfl, _, _, rfl, rfl, ?_⟩
    walk_at "rd"
    refine ⟨x, dx, _, rfl, hx, rfl, ?_⟩
    walk_at "rd"
    refine ⟨x, D, dx, _, .ref ll, rfl, hx, c, n3, rfl, ?_⟩
    refine ⟨ll, _, rfl, .inl ⟨SqL.of hll, fun tq ntq => ?_⟩⟩
    generalize e1 : upd H tq _ = H1
    have g1 : H1 tq = some (.tup (qs.map V.ref)) := by rw [← e1]; exact upd_same
    have s1 : Same H H1 := by rw [← e1]; exact fun b u z => (upd_ne (ne_of_none z ntq)).trans z
    clear e1
    walk_at "rd"
    refine ⟨(by show 4 ≤ sizeLine; decide), fun pe npe => ?_⟩
    generalize e2 : upd H1 pe _ = H2
    have g2 : H2 pe = some (.tup [.str "log", .str n, .str g, .ref tq]) := by rw [← e2]; exact upd_same
    have s2 : Same H1 H2 := by rw [← e2]; exact fun b u z => (upd_ne (ne_of_none z npe)).trans z
    clear e2
    have s12 := s1.trans s2
    walk_at "rd"
    refine ⟨x, le, ll, ld, pe, .ref p, es, ls, .log n g ls, rfl, R.same s12, ⟨tq, qs, g2, s2 _ _ g1, lqs, fun i a l e f => s12 _ _ (aq i a l e f)⟩, ok, l1000, fun H3 R3 fr3 => ?_⟩
    obtain ⟨dx3, hx3⟩ := id R3.ob
    walk_at "rd"
    refine ⟨x, D, dx3, _, rfl, hx3, c, n2, (by show 4 < 1000; decide), ?_⟩
    walk_at "rd"
    refine q _ (R3.log upd_same fun b u hb z => (upd_ne hb).trans z) fun b u z m1 m2 m3 m4 => (upd_ne m1).trans (fr3 b u (s12 _ _ z) m1 m2 m3 m4)
end
end HT
namespace HT
open PySem L2 TL
def spWithin (D : Addr) : Sp := fun vs H Q _ => ∃ (x le ll ld p w : Addr) (v : V) (n g a t : Str) (es : List Ent) (ls : List (Str × Str)), vs = [.ref x, .ref w] ∧ RdrAt D H x le ll ld (.ref p) es ls ∧ H p = some (.tup [.str "log", .str n, .str g, v]) ∧ H w = some (.lst [.str a, .str t]) ∧ w ≠ ll ∧ EntOk es (.log n g (ls ++ [(a, t)])) ∧
  ∀ H', RdrAt D H' x le ll ld (.ref p) es (ls ++ [(a, t)]) → FrR x le ll ld H H' → Q .non H'
section
variable {P : Program} {w : World} {K : PySem.W.Frag} {mg : Str → Option Value} {base : Heap} {aN D f1 f2 f3 f4 f5 : Addr} {d1 d2 d3 d4 d5 : FuncData}
theorem ok_R_within {f : Addr} {fd : FuncData} (F : Fun K "_fault_within" "Reader._fault_within" s_R_within f fd) (T : EnT K mg aN) (c : Cls K D) (n2 : NoAttr K D "log") (n3 : NoAttr K D "_lines") (n4 : NoAttr K D "_known") (Is : Cal P w K mg base "is_in_set" 1 ["name", "group", "known"] spInSet f1 d1) (Tf : Cal P w K mg base "text_fits" 5 ["name", "text", "known"] spTxFits f2 d2) : FnOk P w K mg base CX0 6 f fd ["self", "words"] (spWithin D) := by
  refine F.ok sc_R_within (fun vs H Q E h => ?_) (fun cdv A outer s0 H vs Q E hr h => ?_)
  · obtain ⟨x, le, ll, ld, p, w, v, n, g, a, t, es, ls, rfl, _⟩ := h
    rfl
  · obtain ⟨x, le, ll, ld, p, w, v, n, g, a, t, es, ls, rfl, R, hp, hw, nw, ok, q⟩ := h
    have nd := sc_R_within.nd
    refine ⟨_, pss_cons (ps_if (pt_cmpR op_ne (pe_callB call_len_seq (by rfl) T.len PySem.boot_len (pa_cons (pv 1) pa_nil)) pe_int (nomark _)) (pss_one (ps_ret pe_str)) pss_nil)
      (pss_cons (ps_asg (pv 1) (pg_unl (n := 2) (by rfl) (pgs_cons (pg_name (i := 2) nd rfl (Or.inl rfl)) (pgs_cons (pg_name (i := 3) nd rfl (Or.inl rfl)) pgs_nil))))
      (pss_cons (ps_if (pt_not (pt_val (pcl Is hr (by decide) (by rfl) (pa_cons (pv 2) (pa_cons (pe_ix ix_tup (pe_fld (pv 0) (by rfl)) pe_int (fun _ _ => rfl)) (pa_cons (pe_fld (pv 0) (by rfl)) pa_nil)))))) (pss_one (ps_ret pe_str)) pss_nil)
      (pss_cons (ps_if (pt_not (pt_val (pcl Tf hr (by decide) (by rfl) (pa_cons (pv 2) (pa_cons (pv 3) (pa_cons (pe_fld (pv 0) (by rfl)) pa_nil)))))) (pss_one (ps_ret pe_str)) pss_nil)
      (pss_cons (ps_expr (pe_bm PySem.F.plainAttrs_list PySem.F.slot_list_append PySem.F.type_list_append mt_append (pe_fld (pv 0) (by rfl)) (pa_cons (pe_tup (pa_cons (pv 2) (pa_cons (pv 3) pa_nil))) pa_nil)))
      (pss_one (ps_ret pe_non)))))), ?_⟩
    obtain ⟨⟨dx, hx⟩, ne, ⟨ps, lps, hle, hld, at_⟩, ⟨qs, lqs, hll, aq⟩⟩ := id R
    obtain ⟨hn, fr0, ⟨ns, n4', ng, fg, al⟩, l50, lo⟩ := ok
    rw [List.length_append] at l50
    have l50' : ls.length + 1 ≤ 50 := l50
    have mem : (a, t) ∈ ls ++ [(a, t)] := List.mem_append_right _ List.mem_cons_self
    have ins := al _ mem
    obtain ⟨nn, o, s, m, pl, fig, fe, g0, g1, p60, tx⟩ := lo _ mem
    walk_at "rd"
    refine ⟨w, _, rfl, .inl (SqL.of hw), ?_⟩
    walk_at "rd"
    refine ⟨rfl, _, rfl, ?_⟩
    refine ite2 (fun z => absurd z (show ¬ (!decide (V.int 2 = V.int 2)) = true from by decide +kernel)) (fun _ => ?_)
    walk_at "rd"
    refine ⟨w, _, rfl, SqL.of hw, rfl, _, _, rfl, _, _, rfl, rfl, ?_⟩
    walk_at "rd"
    refine ⟨x, D, dx, _, .ref p, rfl, hx, c, n2, rfl, ?_⟩
    walk_at "rd"
    refine ⟨p, _, _, _, rfl, rfl, SqT.of hp, at_nat (k := 2) rfl, ?_⟩
    walk_at "rd"
    refine ⟨x, D, dx, _, .ref ld, rfl, hx, c, n4, rfl, ?_⟩
    walk_at "rd"
    refine ⟨a, g, g, ld, es, ns, rfl, R.known, fg, ins, n4', ?_⟩
    refine ⟨_, rfl, ?_⟩
    refine ite2 (fun z => absurd z (by decide)) (fun _ => ?_)
    walk_at "rd"
    refine ⟨x, D, dx, _, .ref ld, rfl, hx, c, n4, rfl, ?_⟩
    walk_at "rd"
    refine ⟨a, t, ld, es, o, s, m, pl, fig, rfl, R.known, fe, g0, g1, p60, tx, fun H1 s1 => ?_⟩
    refine ⟨_, rfl, ?_⟩
    refine ite2 (fun z => absurd z (by decide)) (fun _ => ?_)
    walk_at "rd"
    refine ⟨x, D, dx, _, .ref ll, rfl, s1 _ _ hx, c, n3, rfl, ?_⟩
    refine ⟨.inl ⟨rfl, _, SqL.of (s1 _ _ hll)⟩, ?_⟩
    walk_at "rd"
    refine ⟨(by show 2 ≤ sizeLine; decide), fun tq ntq => ?_⟩
    generalize e2 : upd H1 tq _ = H2
    have g2 : H2 tq = some (.tup [.str a, .str t]) := by rw [← e2]; exact upd_same
    have s2 : Same H1 H2 := by rw [← e2]; exact fun b u z => (upd_ne (ne_of_none z ntq)).trans z
    clear e2
    have s12 := s1.trans s2
    refine ⟨ll, _, _, rfl, rfl, s12 _ _ hll, ?_, ?_⟩
    · rw [List.length_map]
      exact Nat.lt_of_le_of_lt (by omega : _ ≤ 50) (by decide)
    generalize e3 : upd H2 ll _ = H3
    have k3 : ∀ b u, b ≠ ll → H2 b = some u → H3 b = some u := fun b u hb z => by rw [← e3]; exact (upd_ne hb).trans z
    have g3 : H3 ll = some (.lst ((qs ++ [tq]).map V.ref)) := by rw [← e3, upd_same, List.map_append]; rfl
    clear e3
    have fr : FrR x le ll ld H H3 := fun b u z m1 m2 m3 m4 => k3 b u m3 (s12 b u z)
    have nx : x ≠ ll := ne_of hx hll (by intro z; cases z)
    have nl : ld ≠ ll := ne_of hld hll (by intro z; cases z)
    have ntl : tq ≠ ll := ne_of g2 (s12 _ _ hll) (by intro z; cases z)
    have kt : ∀ b xs, H b = some (.tup xs) → H3 b = some (.tup xs) := fun b xs hb => k3 b _ (fun z => by rw [z, hll] at hb; cases hb) (s12 _ _ hb)
    walk_at "rd"
    refine q H3 ⟨⟨dx, k3 _ _ nx (s12 _ _ hx)⟩, ne, ⟨ps, lps, k3 _ _ ne (s12 _ _ hle), k3 _ _ nl (s12 _ _ hld), fun i y e iy ie => (at_ i y e iy ie).fr hx hle hll hld fr⟩, ⟨qs ++ [tq], ?_, g3, fun i y l iy il => ?_⟩⟩ fr
    · rw [List.length_append, List.length_append, lqs]
      rfl
    · rcases Nat.lt_or_ge i qs.length with h | h
      · rw [List.getElem?_append_left h] at iy
        rw [List.getElem?_append_left (by omega)] at il
        exact kt _ _ (aq i y l iy il)
      · rw [List.getElem?_append_right h] at iy
        rw [List.getElem?_append_right (by omega)] at il
        rw [lqs] at iy
        cases hk : i - ls.length with
        | zero =>
          rw [hk] at iy il
          cases iy
          cases il
          exact k3 _ _ ntl g2
        | succ k =>
          rw [hk] at iy
          cases iy
end
end HT
namespace HT
open PySem L2 TL
theorem head_ok {es : List Ent} {e : Ent} (h : EntOk es e) : EntOk es (headE e) := by
  cases e with
  | side n o s m pl => exact h
  | set n ns => exact h
  | log n g ls =>
    obtain ⟨a, b, ⟨ns, c, d, e, f⟩, _, _⟩ := h
    exact ⟨a, b, ⟨ns, c, d, e, fun l hl => by cases hl⟩, by decide, fun l hl => by cases hl⟩
/-- a line that opens an entry: what stands after it -/
def spREntry (D : Addr) : Sp := fun vs H Q _ => ∃ (x le ll ld w : Addr) (es : List Ent) (ls : List (Str × Str)) (e : Ent), vs = [.ref x, .ref w] ∧ RdrAt D H x le ll ld .non es ls ∧ H w = some (.lst ((headW e).map V.str)) ∧ EntOk es e ∧ es.length ≤ 1000 ∧
  ((∀ n g l2, e ≠ .log n g l2) → ∀ H', RdrAt D H' x le ll ld .non (es ++ [e]) ls → FrR x le ll ld H H' → Q .non H') ∧
  (∀ n g l2, e = .log n g l2 → ∀ (H' : Hp) (p l3 : Addr) (v : V), H l3 = none → RdrAt D H' x le l3 ld (.ref p) es [] → H' p = some (.tup [.str "log", .str n, .str g, v]) → FrR x le ll ld H H' → Q .non H')
section
variable {P : Program} {w : World} {K : PySem.W.Frag} {mg : Str → Option Value} {base : Heap} {aN D f1 f2 f3 f4 f5 : Addr} {d1 d2 d3 d4 d5 : FuncData}
theorem ok_R_entry {f : Addr} {fd : FuncData} (F : Fun K "_fault_of_entry" "Reader._fault_of_entry" s_R_entry f fd) (c : Cls K D) (n2 : NoAttr K D "log") (n3 : NoAttr K D "_lines") (n4 : NoAttr K D "_known") (Eo : Cal P w K mg base "_entry_of" 3 ["words"] spEntry f1 d1) (Nf : Cal P w K mg base "names_fit" 2 ["entry", "known"] spFits f2 d2) (Wf : Cal P w K mg base "worths_fit" 6 ["entry", "known"] spFits f3 d3) (M : Meth K D "_add" f4) (Ad : FnOk P w K mg base CX0 1 f4 d4 ["self", "entry"] (spAdd D)) (ba : Binds K d4 ["self", "entry"] []) : FnOk P w K mg base CX0 7 f fd ["self", "words"] (spREntry D) := by
  refine F.ok sc_R_entry (fun vs H Q E h => ?_) (fun cdv A outer s0 H vs Q E hr h => ?_)
  · obtain ⟨x, le, ll, ld, w, es, ls, e, rfl, _⟩ := h
    rfl
  · obtain ⟨x, le, ll, ld, w, es, ls, e, rfl, R, hw, ok, l1000, q1, q2⟩ := h
    have nd := sc_R_entry.nd
    refine ⟨_, pss_cons (ps_set (i := 2) nd rfl (Or.inl rfl) (pcl Eo hr (by decide) (by rfl) (pa_cons (pv 1) pa_nil)))
      (pss_cons (ps_if (pt_cmpR op_isN (pv 2) pe_non (nomark _)) (pss_one (ps_ret pe_str)) pss_nil)
      (pss_cons (ps_if (pt_not (pt_val (pcl Nf hr (by decide) (by rfl) (pa_cons (pv 2) (pa_cons (pe_fld (pv 0) (by rfl)) pa_nil))))) (pss_one (ps_ret pe_str)) pss_nil)
      (pss_cons (ps_if (pt_not (pt_val (pcl Wf hr (by decide) (by rfl) (pa_cons (pv 2) (pa_cons (pe_fld (pv 0) (by rfl)) pa_nil))))) (pss_one (ps_ret pe_str)) pss_nil)
      (pss_cons (ps_if (pt_cmpR op_eq (pe_ix ix_tup (pv 2) pe_int (fun _ _ => rfl)) pe_str (nomark _)) (pss_cons (ps_fld (pv 0) (pv 2) (by rfl)) (pss_one (ps_fld (pv 0) (pe_lst pa_nil) (by rfl)))) (pss_one (ps_expr (pe_meth (pv 0) c M Ad (hr.mono (by decide)) ba .nil pass0 (pa_cons (pv 2) pa_nil)))))
      (pss_one (ps_ret pe_non)))))), ?_⟩
    obtain ⟨⟨dx, hx⟩, ne, ⟨ps, lps, hle, hld, at_⟩, ⟨qs, lqs, hll, aq⟩⟩ := id R
    walk_at "rd"
    refine ⟨w, e, es, rfl, hw, ok, fun p H1 s1 ea => ?_⟩
    walk_at "rd"
    refine ⟨rfl, ?_⟩
    walk_at "rd"
    refine ⟨x, D, dx, _, .ref ld, rfl, s1 _ _ hx, c, n4, rfl, ?_⟩
    walk_at "rd"
    refine ⟨p, ld, headE e, es, rfl, ea, head_ok ok, R.known.same s1, fun H2 s2 => ?_⟩
    refine ⟨_, rfl, ?_⟩
    refine ite2 (fun z => absurd z (by decide)) (fun _ => ?_)
    walk_at "rd"
    have s12 := s1.trans s2
    refine ⟨x, D, dx, _, .ref ld, rfl, s12 _ _ hx, c, n4, rfl, ?_⟩
    walk_at "rd"
    refine ⟨p, ld, headE e, es, rfl, ea.same s2, head_ok ok, R.known.same s12, fun H3 s3 => ?_⟩
    refine ⟨_, rfl, ?_⟩
    refine ite2 (fun z => absurd z (by decide)) (fun _ => ?_)
    have s13 := s12.trans s3
    have ea3 := ea.same (s2.trans s3)
    obtain ⟨xs, hp⟩ := ea3.tup
    have hx3 := s13 _ _ hx
    walk_at "rd"
    refine ⟨p, _, _, _, rfl, rfl, SqT.of hp, at0, ?_⟩
    walk_at "rd"
    refine ⟨rfl, _, rfl, ?_⟩
    cases e with
    | side n o s m pl =>
      refine ite2 (fun z => absurd z (show ¬ decide (V.str "side" = V.str "log") = true from by decide +kernel)) (fun _ => ?_)
      walk_at "rd"
      refine ⟨x, dx, _, rfl, hx3, rfl, ?_⟩
      walk_at "rd"
      refine ⟨x, le, ll, ld, p, .non, es, ls, _, rfl, R.same s13, ea3, ok, l1000, fun H4 R4 fr4 => ?_⟩
      walk_at "rd"
      exact q1 (fun _ _ _ z => by cases z) H4 R4 fun b u z m1 m2 m3 m4 => fr4 b u (s13 _ _ z) m1 m2 m3 m4
    | set n ns =>
      refine ite2 (fun z => absurd z (show ¬ decide (V.str "set" = V.str "log") = true from by decide +kernel)) (fun _ => ?_)
      walk_at "rd"
      refine ⟨x, dx, _, rfl, hx3, rfl, ?_⟩
      walk_at "rd"
      refine ⟨x, le, ll, ld, p, .non, es, ls, _, rfl, R.same s13, ea3, ok, l1000, fun H4 R4 fr4 => ?_⟩
      walk_at "rd"
      exact q1 (fun _ _ _ z => by cases z) H4 R4 fun b u z m1 m2 m3 m4 => fr4 b u (s13 _ _ z) m1 m2 m3 m4
    | log n g l2 =>
      refine ite2 (fun _ => ?_) (fun z => absurd (decide_eq_true rfl) z)
      walk_at "rd"
      refine ⟨x, D, dx, _, rfl, hx3, c, n2, (by show 4 < 1000; decide), ?_⟩
      generalize e4 : upd H3 x _ = H4
      have g4 : H4 x = some (.ins D dx [("entries", .ref le), ("log", .ref p), ("_lines", .ref ll), ("_known", .ref ld)]) := by rw [← e4]; exact upd_same
      have k4 : ∀ b u, b ≠ x → H3 b = some u → H4 b = some u := fun b u hb z => by rw [← e4]; exact (upd_ne hb).trans z
      clear e4
      walk_at "rd"
      refine ⟨(by show 0 ≤ sizeLine; decide), fun l3 nl3 => ?_⟩
      generalize e5 : upd H4 l3 _ = H5
      have g5 : H5 l3 = some (.lst []) := by rw [← e5]; exact upd_same
      have s5 : Same H4 H5 := by rw [← e5]; exact fun b u z => (upd_ne (ne_of_none z nl3)).trans z
      clear e5
      walk_at "rd"
      refine ⟨x, D, dx, _, rfl, s5 _ _ g4, c, n3, (by show 4 < 1000; decide), ?_⟩
      generalize e6 : upd H5 x _ = H6
      have g6 : H6 x = some (.ins D dx [("entries", .ref le), ("log", .ref p), ("_lines", .ref l3), ("_known", .ref ld)]) := by rw [← e6]; exact upd_same
      have k6 : ∀ b u, b ≠ x → H5 b = some u → H6 b = some u := fun b u hb z => by rw [← e6]; exact (upd_ne hb).trans z
      clear e6
      have all : ∀ b u, b ≠ x → H b = some u → H6 b = some u := fun b u hb z => k6 b u hb (s5 _ _ (k4 b u hb (s13 _ _ z)))
      have n1 : le ≠ x := ne_of hle hx (by intro z; cases z)
      have nd3 : ld ≠ x := ne_of hld hx (by intro z; cases z)
      have nl3x : l3 ≠ x := fun z => by rw [z, g4] at nl3; cases nl3
      have nle : le ≠ l3 := fun z => by rw [← z, k4 _ _ n1 (s13 _ _ hle)] at nl3; cases nl3
      have fr : FrR x le ll ld H H6 := fun b u z m1 _ _ _ => all b u m1 z
      have free : H l3 = none := by
        cases hh : H l3 with
        | none => rfl
        | some u => rw [k4 _ _ nl3x (s13 _ _ hh)] at nl3; cases nl3
      obtain ⟨qv, pv, pa, _⟩ := ea3
      have npx : p ≠ x := ne_of pa hx3 (by intro z; cases z)
      walk_at "rd"
      exact q2 n g l2 rfl H6 p l3 (.ref qv) free ⟨⟨dx, g6⟩, nle, ⟨ps, lps, all _ _ n1 hle, all _ _ nd3 hld, fun i y e iy ie => (at_ i y e iy ie).fr hx hle hll hld fr⟩, ⟨[], rfl, k6 _ _ nl3x g5, fun i a l z _ => by cases z⟩⟩ (k6 _ _ npx (s5 _ _ (k4 _ _ npx pa))) fr
end
end HT
namespace HT
open PySem L2 TL
theorem word_ok {z : Str} (h : WordP z) : PyData.canLay0 (.str z) = true := by
  show z.cps.all (· < 0x110000) = true
  rw [← Array.all_toList, List.all_eq_true]
  intro c hc
  have := h.ok c hc
  exact decide_eq_true (by omega)
theorem words_shaped : ∀ ws : List Str, (∀ z ∈ ws, WordP z) → PyData.canLayAll0 (ws.map PyData.str) = true ∧ PyData.depthAll (ws.map PyData.str) ≤ 1
  | [], _ => ⟨rfl, Nat.zero_le _⟩
  | w :: ws, h => by
    have a := words_shaped ws fun z hz => h z (List.mem_cons_of_mem _ hz)
    have b := word_ok (h w List.mem_cons_self)
    refine ⟨?_, ?_⟩
    · show (PyData.canLay0 (.str w) && PyData.canLayAll0 (ws.map PyData.str)) = true
      rw [a.1, b]
      rfl
    · show max (PyData.depth (.str w)) (PyData.depthAll (ws.map PyData.str)) ≤ 1
      refine Nat.max_le.mpr ⟨?_, a.2⟩
      simp [PyData.depth]
theorem list_shaped {ws : List Str} (h : ∀ z ∈ ws, WordP z) : SeqAt.shaped (.list (ws.map PyData.str)) = true := by
  obtain ⟨a, b⟩ := words_shaped ws h
  show (PyData.canLay0 (.list (ws.map PyData.str)) && decide (PyData.depth (.list (ws.map PyData.str)) ≤ 64)) = true
  rw [Bool.and_eq_true]
  refine ⟨by simpa [PyData.canLay0] using a, decide_eq_true ?_⟩
  simp only [PyData.depth]
  omega
theorem dp_words {K : PySem.W.Frag} {H : Hp} : ∀ ws : List Str, DpAll K H (ws.map V.str) (ws.map PyData.str)
  | [] => .nil
  | w :: ws => .cons (.str w) (dp_words ws)
theorem eqv_words : ∀ ws vs : List Str, PyData.eqvAll (ws.map PyData.str) (vs.map PyData.str) = decide (ws = vs)
  | [], [] => rfl
  | [], _ :: _ => rfl
  | _ :: _, [] => rfl
  | w :: ws, v :: vs => by
    have a := eqv_words ws vs
    show (PyData.eqv (.str w) (.str v) && PyData.eqvAll (ws.map PyData.str) (vs.map PyData.str)) = _
    rw [a]
    have b : PyData.eqv (.str w) (.str v) = decide (w = v) := by
      show (w == v) = decide (w = v)
      rw [Bool.eq_iff_iff, beq_iff_eq, decide_eq_true_iff]
    rw [b]
    by_cases c : w = v <;> by_cases d : ws = vs <;> simp [c, d]
/-- a line of words, and what the reader makes of it -/
def spFault (D : Addr) : Sp := fun vs H Q E => ∃ (x w le ll ld : Addr) (lg : V) (es : List Ent) (ls : List (Str × Str)) (ws : List Str), vs = [.ref x, .ref w] ∧ H w = some (.lst (ws.map V.str)) ∧ (∀ z ∈ ws, WordP z) ∧ RdrAt D H x le ll ld lg es ls ∧
  ((ws = [] ∧ ∀ H', Same H H' → Q .non H') ∨ (ws ≠ [] ∧ lg = .non ∧ ∀ H' E', Same H H' → spREntry D [.ref x, .ref w] H' Q E') ∨
  (ws = [("end" : Str)] ∧ (∃ p, lg = .ref p) ∧ ∀ H' E', Same H H' → spEnd D [.ref x] H' Q E') ∨ (ws ≠ [] ∧ ws ≠ [("end" : Str)] ∧ (∃ p, lg = .ref p) ∧ ∀ H' E', Same H H' → spWithin D [.ref x, .ref w] H' Q E'))
section
variable {P : Program} {w : World} {K : PySem.W.Frag} {mg : Str → Option Value} {base : Heap} {aN D f1 f2 f3 f4 f5 : Addr} {d1 d2 d3 d4 d5 : FuncData}
theorem ok_R_fault {f : Addr} {fd : FuncData} (F : Fun K "fault_of" "Reader.fault_of" s_R_fault f fd) (c : Cls K D) (n2 : NoAttr K D "log") (M1 : Meth K D "_fault_of_entry" f1) (O1 : FnOk P w K mg base CX0 7 f1 d1 ["self", "words"] (spREntry D)) (b1 : Binds K d1 ["self", "words"] []) (M2 : Meth K D "_fault_of_end" f2) (O2 : FnOk P w K mg base CX0 2 f2 d2 ["self"] (spEnd D)) (b2 : Binds K d2 ["self"] []) (M3 : Meth K D "_fault_within" f3) (O3 : FnOk P w K mg base CX0 6 f3 d3 ["self", "words"] (spWithin D)) (b3 : Binds K d3 ["self", "words"] []) : FnOk P w K mg base CX0 8 f fd ["self", "words"] (spFault D) := by
  refine F.ok sc_R_fault (fun vs H Q E h => ?_) (fun cdv A outer s0 H vs Q E hr h => ?_)
  · obtain ⟨x, w, le, ll, ld, lg, es, ls, ws, rfl, _⟩ := h
    rfl
  · obtain ⟨x, w, le, ll, ld, lg, es, ls, ws, rfl, hw, al, R, cases4⟩ := h
    have nd := sc_R_fault.nd
    refine ⟨_, pss_cons (ps_if (pt_cmpR (op_eqD hr.units) (pv 1) (pe_lst pa_nil) (nomark _)) (pss_one (ps_ret pe_non)) pss_nil)
      (pss_cons (ps_if (pt_cmpR op_isN (pe_fld (pv 0) (by rfl)) pe_non (nomark _)) (pss_one (ps_ret (pe_meth (pv 0) c M1 O1 (hr.mono (by decide)) b1 .nil pass0 (pa_cons (pv 1) pa_nil)))) pss_nil)
      (pss_cons (ps_if (pt_cmpR (op_eqD hr.units) (pv 1) (pe_lst (pa_cons pe_str pa_nil)) (nomark _)) (pss_one (ps_ret (pe_meth0 (pv 0) c M2 O2 (hr.mono (by decide)) b2 .nil pass0))) pss_nil)
      (pss_one (ps_ret (pe_meth (pv 0) c M3 O3 (hr.mono (by decide)) b3 .nil pass0 (pa_cons (pv 1) pa_nil)))))), ?_⟩
    obtain ⟨dx, hx⟩ := id R.ob
    walk_at "rd"
    refine ⟨(by show 0 ≤ sizeLine; decide), fun p1 np1 => ?_⟩
    generalize e1 : upd H p1 _ = H1
    have g1 : H1 p1 = some (.lst (([] : List Str).map V.str)) := by rw [← e1]; exact upd_same
    have s1 : Same H H1 := by rw [← e1]; exact fun b u z => (upd_ne (ne_of_none z np1)).trans z
    clear e1
    refine ⟨_, _, .lst (SqL.of (s1 _ _ hw)) (dp_words ws), .lst (SqL.of g1) (dp_words []), list_shaped al, list_shaped (fun z hz => by cases hz), _, rfl, ?_⟩
    have ev : PyData.eqv (.list (ws.map PyData.str)) (.list (([] : List Str).map PyData.str)) = decide (ws = []) := by
      show PyData.eqvAll _ _ = _
      exact eqv_words ws []
    rw [ev]
    refine ite2 (fun z => ?_) (fun z => ?_)
    · have w0 := of_decide_eq_true z
      rcases cases4 with ⟨_, q⟩ | ⟨a, _⟩ | ⟨a, _⟩ | ⟨a, _⟩
      · walk_at "rd"
        exact q H1 s1
      · exact absurd w0 a
      · rw [w0] at a; cases a
      · exact absurd w0 a
    · have w0 : ws ≠ [] := fun y => z (decide_eq_true y)
      walk_at "rd"
      refine ⟨x, D, dx, _, lg, rfl, s1 _ _ hx, c, n2, rfl, ?_⟩
      walk_at "rd"
      refine ⟨rfl, _, rfl, ?_⟩
      refine ite2 (fun y => ?_) (fun y => ?_)
      · have l0 := of_decide_eq_true y
        rcases cases4 with ⟨a, _⟩ | ⟨_, _, q⟩ | ⟨_, ⟨p, a⟩, _⟩ | ⟨_, _, ⟨p, a⟩, _⟩
        · exact absurd a w0
        · walk_at "rd"
          refine ⟨x, dx, _, rfl, s1 _ _ hx, rfl, ?_⟩
          walk_at "rd"
          exact q H1 E s1
        · rw [l0] at a; cases a
        · rw [l0] at a; cases a
      · have l0 : lg ≠ .non := fun h => y (decide_eq_true h)
        walk_at "rd"
        refine ⟨(by show 1 ≤ sizeLine; decide), fun p2 np2 => ?_⟩
        generalize e2 : upd H1 p2 _ = H2
        have g2 : H2 p2 = some (.lst ([("end" : Str)].map V.str)) := by rw [← e2]; exact upd_same
        have s2 : Same H1 H2 := by rw [← e2]; exact fun b u z => (upd_ne (ne_of_none z np2)).trans z
        clear e2
        have s12 := s1.trans s2
        refine ⟨_, _, .lst (SqL.of (s12 _ _ hw)) (dp_words ws), .lst (SqL.of g2) (dp_words [("end" : Str)]), list_shaped al, list_shaped (fun z hz => by rcases List.mem_singleton.mp hz with rfl; exact cw_end), _, rfl, ?_⟩
        have ev2 : PyData.eqv (.list (ws.map PyData.str)) (.list ([("end" : Str)].map PyData.str)) = decide (ws = [("end" : Str)]) := by
          show PyData.eqvAll _ _ = _
          exact eqv_words ws [("end" : Str)]
        rw [ev2]
        refine ite2 (fun v => ?_) (fun v => ?_)
        · have w1 := of_decide_eq_true v
          rcases cases4 with ⟨a, _⟩ | ⟨_, a, q⟩ | ⟨_, _, q⟩ | ⟨_, a, _⟩
          · exact absurd a w0
          · exact absurd a l0
          · walk_at "rd"
            refine ⟨x, dx, _, rfl, s12 _ _ hx, rfl, ?_⟩
            walk_at "rd"
            exact q H2 E s12
          · exact absurd w1 a
        · rcases cases4 with ⟨a, _⟩ | ⟨_, a, q⟩ | ⟨a, _⟩ | ⟨_, _, _, q⟩
          · exact absurd a w0
          · exact absurd a l0
          · exact absurd (decide_eq_true a) v
          · walk_at "rd"
            refine ⟨x, dx, _, rfl, s12 _ _ hx, rfl, ?_⟩
            walk_at "rd"
            exact q H2 E s12
end
end HT
namespace HT
open PySem L2 TL
def spRInit (D : Addr) : Sp := fun vs H Q _ => ∃ (x dx : Addr), vs = [.ref x] ∧ H x = some (.ins D dx []) ∧ ∀ (le ll ld : Addr) (H' : Hp), H le = none → H ll = none → H ld = none → RdrAt D H' x le ll ld .non [] [] → (∀ b u, b ≠ x → H b = some u → H' b = some u) → Q .non H'
section
variable {P : Program} {w : World} {K : PySem.W.Frag} {mg : Str → Option Value} {base : Heap} {D : Addr}
theorem ok_R_init {f : Addr} {fd : FuncData} (F : Fun K "__init__" "Reader.__init__" s_R_init f fd) (c : Cls K D) (n1 : NoAttr K D "entries") (n2 : NoAttr K D "log") (n3 : NoAttr K D "_lines") (n4 : NoAttr K D "_known") : FnOk P w K mg base CX0 1 f fd ["self"] (spRInit D) := by
  refine F.ok sc_R_init (fun vs H Q E h => ?_) (fun cdv A outer s0 H vs Q E hr h => ?_)
  · obtain ⟨x, dx, rfl, _⟩ := h
    rfl
  · obtain ⟨x, dx, rfl, hx, q⟩ := h
    have nd := sc_R_init.nd
    refine ⟨_, pss_cons (ps_fld (pv 0) (pe_lst pa_nil) (by rfl)) (pss_cons (ps_fld (pv 0) pe_non (by rfl)) (pss_cons (ps_fld (pv 0) (pe_lst pa_nil) (by rfl)) (pss_one (ps_fld (pv 0) pe_dnewK (by rfl))))), ?_⟩
    walk_at "rd"
    refine ⟨(by show 0 ≤ sizeLine; decide), fun le nle => ?_⟩
    generalize e1 : upd H le _ = H1
    have g1 : H1 le = some (.lst []) := by rw [← e1]; exact upd_same
    have s1 : Same H H1 := by rw [← e1]; exact fun b u z => (upd_ne (ne_of_none z nle)).trans z
    clear e1
    walk_at "rd"
    refine ⟨x, D, dx, [], rfl, s1 _ _ hx, c, n1, by decide, ?_⟩
    generalize e2 : upd H1 x _ = H2
    have g2 : H2 x = some (.ins D dx [("entries", .ref le)]) := by rw [← e2]; exact upd_same
    have k2 : ∀ b u, b ≠ x → H1 b = some u → H2 b = some u := fun b u hb z => by rw [← e2]; exact (upd_ne hb).trans z
    have i2 : ∀ b, H2 b = none → H1 b = none := fun b z => by
      cases hh : H1 b with
      | none => rfl
      | some u =>
        by_cases hb : b = x
        · rw [hb, g2] at z; cases z
        · rw [k2 b u hb hh] at z; cases z
    clear e2
    walk_at "rd"
    refine ⟨x, D, dx, _, rfl, g2, c, n2, (by show 1 < 1000; decide), ?_⟩
    generalize e3 : upd H2 x _ = H3
    have g3 : H3 x = some (.ins D dx [("entries", .ref le), ("log", .non)]) := by rw [← e3]; exact upd_same
    have k3 : ∀ b u, b ≠ x → H2 b = some u → H3 b = some u := fun b u hb z => by rw [← e3]; exact (upd_ne hb).trans z
    have i3 : ∀ b, H3 b = none → H2 b = none := fun b z => by
      cases hh : H2 b with
      | none => rfl
      | some u =>
        by_cases hb : b = x
        · rw [hb, g3] at z; cases z
        · rw [k3 b u hb hh] at z; cases z
    clear e3
    walk_at "rd"
    refine ⟨(by show 0 ≤ sizeLine; decide), fun ll nll => ?_⟩
    generalize e4 : upd H3 ll _ = H4
    have g4 : H4 ll = some (.lst []) := by rw [← e4]; exact upd_same
    have s4 : Same H3 H4 := by rw [← e4]; exact fun b u z => (upd_ne (ne_of_none z nll)).trans z
    clear e4
    walk_at "rd"
    refine ⟨x, D, dx, _, rfl, s4 _ _ g3, c, n3, (by show 2 < 1000; decide), ?_⟩
    generalize e5 : upd H4 x _ = H5
    have g5 : H5 x = some (.ins D dx [("entries", .ref le), ("log", .non), ("_lines", .ref ll)]) := by rw [← e5]; exact upd_same
    have k5 : ∀ b u, b ≠ x → H4 b = some u → H5 b = some u := fun b u hb z => by rw [← e5]; exact (upd_ne hb).trans z
    have i5 : ∀ b, H5 b = none → H4 b = none := fun b z => by
      cases hh : H4 b with
      | none => rfl
      | some u =>
        by_cases hb : b = x
        · rw [hb, g5] at z; cases z
        · rw [k5 b u hb hh] at z; cases z
    clear e5
    walk_at "rd"
    intro ld nld
    generalize e6 : upd H5 ld _ = H6
    have g6 : H6 ld = some (.dK []) := by rw [← e6]; exact upd_same
    have s6 : Same H5 H6 := by rw [← e6]; exact fun b u z => (upd_ne (ne_of_none z nld)).trans z
    clear e6
    walk_at "rd"
    refine ⟨x, D, dx, _, rfl, s6 _ _ g5, c, n4, (by show 3 < 1000; decide), ?_⟩
    generalize e7 : upd H6 x _ = H7
    have g7 : H7 x = some (.ins D dx [("entries", .ref le), ("log", .non), ("_lines", .ref ll), ("_known", .ref ld)]) := by rw [← e7]; exact upd_same
    have k7 : ∀ b u, b ≠ x → H6 b = some u → H7 b = some u := fun b u hb z => by rw [← e7]; exact (upd_ne hb).trans z
    clear e7
    have nlex : le ≠ x := fun z => by rw [z, hx] at nle; cases nle
    have nllx : ll ≠ x := fun z => by rw [z, g3] at nll; cases nll
    have nldx : ld ≠ x := fun z => by rw [z, g5] at nld; cases nld
    have hle : H7 le = some (.lst []) := k7 _ _ nlex (s6 _ _ (k5 _ _ nlex (s4 _ _ (k3 _ _ nlex (k2 _ _ nlex g1)))))
    have hll : H7 ll = some (.lst []) := k7 _ _ nllx (s6 _ _ (k5 _ _ nllx g4))
    have nee : le ≠ ll := fun z => by rw [← z, k3 _ _ nlex (k2 _ _ nlex g1)] at nll; cases nll
    have back : ∀ b, H5 b = none → H b = none := fun b z => s1.free (i2 _ (i3 _ (s4.free (i5 _ z))))
    refine q le ll ld H7 nle (s1.free (i2 _ (i3 _ nll))) (back ld nld) ⟨⟨dx, g7⟩, nee, ⟨[], rfl, hle, k7 _ _ nldx g6, fun i p e z _ => by cases z⟩, ⟨[], rfl, hll, fun i a l z _ => by cases z⟩⟩ fun b u hb z => k7 _ _ hb (s6 _ _ (k5 _ _ hb (s4 _ _ (k3 _ _ hb (k2 _ _ hb (s1 _ _ z))))))
end
end HT
namespace HT
open PySem L2 TL
abbrev OpnL := Option (Str × Str × List (Str × Str))
/-- a line more: what stands ahead of it and behind it -/
inductive Nx : List Ent → OpnL → List Str → List Ent → OpnL → Prop where
  | one {d : List Ent} {e : Ent} (h : EntOk d e) (nl : ∀ n g l, e ≠ .log n g l) : Nx d none (headW e) (d ++ [e]) none
  | opn {d : List Ent} {n g : Str} {l : List (Str × Str)} (h : EntOk d (.log n g l)) : Nx d none [("log" : Str), n, g] d (some (n, g, []))
  | row {d : List Ent} {n g a t : Str} {l : List (Str × Str)} (h : EntOk d (.log n g (l ++ [(a, t)]))) : Nx d (some (n, g, l)) [a, t] d (some (n, g, l ++ [(a, t)]))
  | fin {d : List Ent} {n g : Str} {l : List (Str × Str)} (h : EntOk d (.log n g l)) : Nx d (some (n, g, l)) [("end" : Str)] (d ++ [.log n g l]) none
/-- lines of words that come to the entries r -/
inductive Goes : List Ent → OpnL → List (List Str) → List Ent → Prop where
  | nil {d : List Ent} : Goes d none [] d
  | skip {d r : List Ent} {o : OpnL} {W : List (List Str)} (h : Goes d o W r) : Goes d o ([] :: W) r
  | cons {d d' r : List Ent} {o o' : OpnL} {ws : List Str} {W : List (List Str)} (h : Nx d o ws d' o') (p : LineP ws) (k : Goes d' o' W r) : Goes d o (ws :: W) r
theorem log_pre {d : List Ent} {n g : Str} {l m : List (Str × Str)} (h : EntOk d (.log n g (l ++ m))) : EntOk d (.log n g l) := by
  obtain ⟨a, b, ⟨ns, c, e, f, al⟩, l50, lo⟩ := h
  rw [List.length_append] at l50
  exact ⟨a, b, ⟨ns, c, e, f, fun x hx => al x (List.mem_append_left _ hx)⟩, by omega, fun x hx => lo x (List.mem_append_left _ hx)⟩
theorem goes_rows {d r : List Ent} {n g : Str} {W : List (List Str)} : ∀ (m l : List (Str × Str)), EntOk d (.log n g (l ++ m)) → (∀ ws ∈ wordsE (.log n g (l ++ m)), LineP ws) → Goes (d ++ [.log n g (l ++ m)]) none W r → Goes d (some (n, g, l)) ((m.map fun x => [x.1, x.2]) ++ ([("end" : Str)] :: W)) r
  | [], l, h, p, k => by
    rw [List.append_nil] at h k
    exact .cons (.fin h) ⟨by simp, by simp, fun z hz => by rcases List.mem_singleton.mp hz with rfl; exact cw_end⟩ k
  | (a, t) :: m, l, h, p, k => by
    have e : l ++ (a, t) :: m = (l ++ [(a, t)]) ++ m := by rw [List.append_assoc]; rfl
    rw [e] at h k p
    refine .cons (.row (log_pre h)) (p _ ?_) (goes_rows m (l ++ [(a, t)]) h p k)
    refine List.mem_cons_of_mem _ (List.mem_append_left _ (List.mem_map.mpr ⟨(a, t), ?_, rfl⟩))
    exact List.mem_append_left _ (List.mem_append_right _ List.mem_cons_self)
theorem goes_ent {d r : List Ent} {e : Ent} {W : List (List Str)} (h : EntOk d e) (k : Goes (d ++ [e]) none W r) : Goes d none (wordsE e ++ W) r := by
  have p := (ent_words h).2
  cases e with
  | side n o s m pl => exact .cons (.one h fun _ _ _ z => by cases z) (p _ List.mem_cons_self) k
  | set n ns => exact .cons (.one h fun _ _ _ z => by cases z) (p _ List.mem_cons_self) k
  | log n g ls =>
    have q := goes_rows (W := W) (r := r) ls [] h p k
    have e : wordsE (.log n g ls) ++ W = [("log" : Str), n, g] :: ((ls.map fun x => [x.1, x.2]) ++ ([("end" : Str)] :: W)) := by
      show [("log" : Str), n, g] :: ((ls.map fun l => [l.1, l.2]) ++ [[("end" : Str)]]) ++ W = _
      rw [List.cons_append, List.append_assoc]
      rfl
    rw [e]
    exact .cons (.opn h) (p _ List.mem_cons_self) q
theorem goes_all : ∀ (es pre : List Ent), (∀ (i : Nat) (e : Ent), es[i]? = some e → EntOk (pre ++ es.take i) e) → Goes pre none (allW es) (pre ++ es)
  | [], pre, _ => by rw [List.append_nil]; exact .nil
  | e :: es, pre, h => by
    have a : EntOk pre e := by have := h 0 e rfl; rwa [List.take_zero, List.append_nil] at this
    have b := goes_all es (pre ++ [e]) fun i x hx => by
      have := h (i + 1) x hx
      rwa [List.take_succ_cons, List.append_cons] at this
    rw [← List.append_cons] at b
    have e2 : allW (e :: es) = wordsE e ++ allW es := by unfold allW; rw [List.flatMap_cons]
    rw [e2]
    exact goes_ent a b
theorem goes_skip {d r : List Ent} {o : OpnL} : ∀ W : List (List Str), Goes d o (W.filter fun ws => decide (ws ≠ [])) r → Goes d o W r := by
  intro W
  induction W generalizing d o with
  | nil => exact id
  | cons ws W ih =>
    intro h
    by_cases e : ws = []
    · rw [List.filter_cons, if_neg (by simp [e])] at h
      rw [e]
      exact .skip (ih h)
    · rw [List.filter_cons, if_pos (by simp [e])] at h
      cases h with
      | skip h => exact absurd rfl e
      | cons h p k => exact .cons h p (ih k)
end HT
namespace HT
open PySem L2 TL
/-- the words of a line -/
def wordsOfL (y : Str) : List Str := (Txt.split y " ").filter fun z => decide (z ≠ ("" : Str))
/-- what the field of the open log tells -/
def OpnAt (H : Hp) (lg : V) : OpnL → List (Str × Str) → Prop
  | none, _ => lg = .non
  | some (n, g, l), ls => ls = l ∧ ∃ (p : Addr) (v : V), lg = .ref p ∧ H p = some (.tup [.str "log", .str n, .str g, v])
theorem OpnAt.same {H H' : Hp} {lg : V} {o : OpnL} {ls : List (Str × Str)} (h : OpnAt H lg o ls) (s : Same H H') : OpnAt H' lg o ls := by
  cases o with
  | none => exact h
  | some o => obtain ⟨a, p, v, b, c⟩ := h; exact ⟨a, p, v, b, s _ _ c⟩
theorem goes_len {d r : List Ent} {o : OpnL} {W : List (List Str)} (h : Goes d o W r) : d.length ≤ r.length := by
  induction h with
  | nil => exact Nat.le_refl _
  | skip _ ih => exact ih
  | cons n _ _ ih =>
    cases n <;> first | exact ih | (rw [List.length_append] at ih; omega)
def spReadP : Sp := fun vs H Q _ => ∃ (z : Str) (es : List Ent), vs = [.str z] ∧ z.length ≤ 16000000 ∧ (∀ y ∈ Txt.split z "\n", y.length ≤ 16000000 ∧ (Txt.split y " ").length ≤ 16000000) ∧ Goes [] none ((Txt.split z "\n").map wordsOfL) es ∧ es.length ≤ 100 ∧ ∀ (le : Addr) (H' : Hp), H le = none → Same H H' → EntsAt H' le es → Q (.ref le) H'
section
variable {P : Program} {w : World} {K : PySem.W.Frag} {mg : Str → Option Value} {base : Heap} {aN D f1 f2 f3 f4 f5 : Addr} {d1 d2 d3 d4 d5 : FuncData}
theorem ok_read_paper {f : Addr} {fd : FuncData} (F : Fun K "read_paper" "read_paper" s_read_paper f fd) (T : EnT K mg aN) (hen : mg "enumerate" = none) (gR : mg "Reader" = some (.ref D)) (c : Cls K D) (n1 : NoAttr K D "entries") (n2 : NoAttr K D "log") (Mk' : Mk K D f1) (Ini : FnOk P w K mg base CX0 1 f1 d1 ["self"] (spRInit D)) (bi : Binds K d1 ["self"] []) (M : Meth K D "fault_of" f2) (O : FnOk P w K mg base CX0 8 f2 d2 ["self", "words"] (spFault D)) (bf : Binds K d2 ["self", "words"] []) : FnOk P w K mg base CX0 9 f fd ["text"] spReadP := by
  refine F.ok sc_read_paper (fun vs H Q E h => ?_) (fun cdv A outer s0 H vs Q E hr h => ?_)
  · obtain ⟨z, es, rfl, _⟩ := h
    rfl
  · obtain ⟨z, es, rfl, zl, yl, go, l100, q⟩ := h
    have nd := sc_read_paper.nd
    refine ⟨_, (pss_cons (ps_if (pt_not (pt_val (pe_callB call_isi (by rfl) T.isi (by decide +kernel) (pa_cons (pv 0) (pa_cons (pe_bltn (v := .ty "str") (by rfl) T.str (by decide +kernel) rfl) pa_nil))))) (pss_one ps_never) pss_nil)
      (pss_cons (ps_set (i := 1) nd rfl (Or.inl rfl) (pe_bm PySem.F.plainAttrs_str PySem.F.slot_str_split PySem.F.type_str_split mt_split (pv 0) (pa_cons pe_str pa_nil)))
      (pss_cons (ps_set (i := 2) nd rfl (Or.inl rfl) (pe_make0 Mk' Ini (hr.mono (by decide)) (by rfl) gR bi .nil pass0))
      (pss_cons (ps_for PassesOwn.never rfl (pi_enum (by rfl) hen (pa_cons (pv 1) pa_nil)) (pg_tup (by rfl) (pgs_cons (pg_name (i := 3) nd rfl (Or.inl rfl)) (pgs_cons (pg_name (i := 4) nd rfl (Or.inl rfl)) pgs_nil))) (pss_cons (ps_setLc (i := 6) (own := [("word", 5)]) (g := gName 5) rfl nd rfl rfl (sw_true rfl rfl rfl (by decide +kernel)) (pi_list (pe_bm PySem.F.plainAttrs_str PySem.F.slot_str_split PySem.F.type_str_split mt_split (pv 4) (pa_cons pe_str pa_nil))) (blkOk_by (N := ["text", "lines", "reader", "number", "line", "word", "words", "reason"]) (sc := defScope s_read_paper) (by decide +kernel)) (fun _ _ _ _ _ => pg_name (i := 5) nd rfl (Or.inl rfl)) (fun _ _ _ _ _ => (pts_one (pt_cmpR op_ne (pv 5) pe_str (nomark _)))) (fun _ _ _ _ _ => (pv 5)))
      (pss_cons (ps_set (i := 7) nd rfl (Or.inl rfl) (pe_meth (pv 2) c M O (hr.mono (by decide)) bf .nil pass0 (pa_cons (pv 6) pa_nil)))
      (pss_one (ps_if (pt_cmpR op_notN (pv 7) pe_non (nomark _)) (pss_one ps_never) pss_nil)))))
      (pss_cons (ps_if (pt_cmpR op_notN (pe_fld (pv 2) (by rfl)) pe_non (nomark _)) (pss_one ps_never) pss_nil)
      (pss_one (ps_ret (pe_fld (pv 2) (by rfl))))))))), ?_⟩
    walk_at "rd"
    refine ⟨_, _, _, _, _, rfl, .ty "str", .base (.str z), kit_ty (r := true) (by decide +kernel), ?_⟩
    walk_at "rd"
    refine ⟨rfl, ?_⟩
    walk_at "rd"
    refine ⟨by decide +kernel, Nat.le_trans (by omega : z.length + 2 ≤ 16000002) (by decide), fun L nL => ?_⟩
    generalize e1 : upd H L _ = H1
    have g1 : H1 L = some (.lst ((Txt.split z (Str.ofString "
")).map V.str)) := by rw [← e1]; exact upd_same
    have s1 : Same H H1 := by rw [← e1]; exact fun b u y => (upd_ne (ne_of_none y nL)).trans y
    clear e1
    walk_at "rd"
    intro x dx nx ndx nex
    refine ⟨x, dx, rfl, upd_same, fun le ll ld H2 nle nll nld R k2 => ⟨rfl, ?_⟩⟩
    have s2 : Same H1 H2 := fun b u y => k2 b u (ne_of_none y nx) ((upd_ne (ne_of_none y nx)).trans ((upd_ne (ne_of_none y ndx)).trans y))
    have s12 := s1.trans s2
    have fle : H1 le = none := by
      cases h : H1 le with
      | none => rfl
      | some u => rw [(upd_ne (ne_of_none h nx)).trans ((upd_ne (ne_of_none h ndx)).trans h)] at nle; cases nle
    have fll : H1 ll = none := by
      cases h : H1 ll with
      | none => rfl
      | some u => rw [(upd_ne (ne_of_none h nx)).trans ((upd_ne (ne_of_none h ndx)).trans h)] at nll; cases nll
    have fld : H1 ld = none := by
      cases h : H1 ld with
      | none => rfl
      | some u => rw [(upd_ne (ne_of_none h nx)).trans ((upd_ne (ne_of_none h ndx)).trans h)] at nld; cases nld
    walk_at "rd"
    refine ⟨L, _, rfl, SqL.of (s2 _ _ g1), ?_⟩
    refine for_it (walk_enum (K := K) (a := L) (xs := (Txt.split z (Str.ofString "
")).map V.str)) (fun i st H3 => ∃ (x3 x4 x5 x6 x7 : Option V) (l2 : Addr) (lg : V) (d : List Ent) (o : OpnL) (ls : List (Str × Str)), st = [some (.str z), some (.ref L), some (.ref x), x3, x4, x5, x6, x7] ∧ RdrAt D H3 x le l2 ld lg d ls ∧ OpnAt H3 lg o ls ∧ Goes d o (((Txt.split z (Str.ofString "
")).drop i).map wordsOfL) es ∧ H1 l2 = none ∧ Same H1 H3 ∧ d.length ≤ 100)
      ⟨none, none, none, none, none, ll, .non, [], none, [], rfl, R, rfl, go, fll, s2, by decide⟩ (fun _ _ _ _ ⟨_, _, _, _, _, _, _, _, _, _, _, _, _, _, _, sm, _⟩ => SqL.of (sm _ _ g1)) ?_ ?_
    · rintro i v st H3 H4 hi ⟨x3, x4, x5, x6, x7, l2, lg, d, o, ls, rfl, R3, op, gs, f2, sm, dl⟩ ⟨T', z1, z2, rfl, nT, rfl, e1, e2⟩
      cases e1
      obtain ⟨y, ey, rfl⟩ : ∃ y, (Txt.split z (Str.ofString "
"))[i]? = some y ∧ z2 = V.str y := by
        have e3 : ((Txt.split z (Str.ofString "
")).map V.str)[i]? = some z2 := e2
        rw [List.getElem?_map] at e3
        obtain ⟨y, a, b⟩ := Option.map_eq_some_iff.mp e3
        exact ⟨y, a, b.symm⟩
      obtain ⟨yl1, yl2⟩ := yl y (List.mem_of_getElem? ey)
      refine ⟨T', _, rfl, SqT.of upd_same, rfl, _, _, rfl, _, _, rfl, rfl, ?_⟩
      generalize e5 : upd H3 T' _ = H5
      have s5 : Same H3 H5 := by rw [← e5]; exact fun b u y => (upd_ne (ne_of_none y nT)).trans y
      clear e5
      walk_at "rd"
      refine ⟨rfl, ?_⟩
      walk_at "rd"
      refine ⟨by decide +kernel, Nat.le_trans (by omega : y.length + 2 ≤ 16000002) (by decide), fun S nS => ?_⟩
      generalize e6 : upd H5 S _ = H6
      have g6 : H6 S = some (.lst ((Txt.split y (Str.ofString " ")).map V.str)) := by rw [← e6]; exact upd_same
      have s6 : Same H5 H6 := by rw [← e6]; exact fun b u y => (upd_ne (ne_of_none y nS)).trans y
      clear e6
      refine ⟨S, rfl, ⟨_, SqL.of g6⟩, fun Wd nW => ?_⟩
      refine lc_it (walk_list (K := K) (a := S) (xs := (Txt.split y (Str.ofString " ")).map V.str)) (fun j H7 => H7 Wd = some (.lst ((((Txt.split y (Str.ofString " ")).take j).filter fun z => decide (z ≠ ("" : Str))).map V.str)) ∧ Same H6 H7) ⟨upd_same, fun b u z => (upd_ne (ne_of_none z nW)).trans z⟩ (fun _ _ _ ⟨_, s3⟩ => SqL.of (s3 _ _ g6)) ?_ ?_
      · rintro j yy H7 H8 hj ⟨hW, s7⟩ ⟨rfl, eyy⟩
        rw [List.getElem?_map] at eyy
        obtain ⟨wd, ew, rfl⟩ := Option.map_eq_some_iff.mp eyy
        rw [List.length_map] at hj
        refine ⟨rfl, ?_⟩
        walk_at "rd"
        refine ⟨rfl, _, rfl, ?_⟩
        have tk : (((Txt.split y (Str.ofString " ")).take (j + 1)).filter fun z => decide (z ≠ ("" : Str))) = (((Txt.split y (Str.ofString " ")).take j).filter fun z => decide (z ≠ ("" : Str))) ++ (if wd = ("" : Str) then [] else [wd]) := by
          rw [List.take_succ, ew, List.filter_append]
          congr 1
          show List.filter _ [wd] = _
          by_cases e : wd = ("" : Str)
          · rw [List.filter_cons, if_neg (by simp [e]), if_pos e]
            rfl
          · rw [List.filter_cons, if_pos (by simp [e]), if_neg e]
            rfl
        refine ite2 (fun b => ?_) (fun b => ?_)
        · have e : ¬ wd = ("" : Str) := fun e => by rw [e] at b; exact absurd b (by decide +kernel)
          walk_at "rd"
          refine ⟨_, hW, ?_, ?_, fun b u z => (upd_ne (ne_of_none z nW)).trans (s7 _ _ z)⟩
          · rw [List.length_map]
            refine Nat.lt_of_le_of_lt (List.length_filter_le _ _) ?_
            rw [List.length_take]
            exact Nat.lt_of_le_of_lt (by omega : _ ≤ 16000000) (by decide)
          · rw [tk, if_neg e, List.map_append]
            exact upd_same
        · have e : wd = ("" : Str) := by
            by_cases e : wd = ("" : Str)
            · exact e
            · exact absurd (by rw [decide_eq_false fun z => e (V.str.inj z)]; rfl) b
          rw [tk, if_pos e, List.append_nil]
          exact ⟨hW, s7⟩
      rintro H7 ⟨hW, s7⟩
      rw [List.length_map, List.take_length] at hW
      have hW2 : H7 Wd = some (.lst ((wordsOfL y).map V.str)) := hW
      have s37 := s5.trans (s6.trans s7)
      obtain ⟨dx3, hx3⟩ := id R3.ob
      have R7 := R3.same s37
      have il : i < (Txt.split z (Str.ofString "\n")).length := (List.getElem?_eq_some_iff.mp ey).1
      have dr : (Txt.split z (Str.ofString "\n")).drop i = y :: (Txt.split z (Str.ofString "\n")).drop (i + 1) := by
        rw [List.drop_eq_getElem_cons il]
        congr 1
        exact (List.getElem?_eq_some_iff.mp ey).2
      rw [dr, List.map_cons] at gs
      have nWl : Wd ≠ l2 := fun e => by
        obtain ⟨_, _, q1, _⟩ := R3.li
        rw [e, s6 _ _ (s5 _ _ q1)] at nW
        cases nW
      generalize wordsOfL y = ws at gs hW2
      walk_at "rd"
      refine ⟨x, dx3, _, rfl, s37 _ _ hx3, rfl, ?_⟩
      walk_at "rd"
      cases gs with
      | skip k =>
        refine ⟨x, Wd, le, l2, ld, lg, d, ls, [], rfl, hW2, (fun z hz => by cases hz), R7, .inl ⟨rfl, fun H8 s8 => ?_⟩⟩
        have RR := R7.same s8
        walk_at "rd"
        refine ⟨rfl, _, rfl, ?_⟩
        refine ite2 (fun b => absurd b (by decide)) (fun _ => ?_)
        exact ⟨_, _, _, _, _, l2, lg, d, o, ls, rfl, RR, (op.same (s37.trans s8)), k, f2, (sm.trans (s37.trans s8)), Nat.le_trans (goes_len k) l100⟩
      | cons h p k =>
        cases h with
        | @one e h nl =>
          have l0 : lg = .non := op
          rw [l0] at R7
          refine ⟨x, Wd, le, l2, ld, .non, d, ls, _, rfl, hW2, p.al, R7, .inr (.inl ⟨p.ne, rfl, fun H8 E' s8 => ⟨x, le, l2, ld, Wd, d, ls, e, rfl, R7.same s8, s8 _ _ hW2, h, by omega, fun _ H9 RR fr9 => ?_, fun n g l3 ee => absurd ee (nl n g l3)⟩⟩)⟩
          walk_at "rd"
          refine ⟨rfl, _, rfl, ?_⟩
          refine ite2 (fun b => absurd b (by decide)) (fun _ => ?_)
          exact ⟨_, _, _, _, _, l2, .non, (d ++ [e]), none, ls, rfl, RR, rfl, k, f2, (fun b u z => fr9 b u (s8 _ _ (s37 _ _ (sm _ _ z))) (ne_of_none z nx) (ne_of_none z fle) (ne_of_none z f2) (ne_of_none z fld)), Nat.le_trans (goes_len k) l100⟩
        | @opn n g l h =>
          have l0 : lg = .non := op
          rw [l0] at R7
          refine ⟨x, Wd, le, l2, ld, .non, d, ls, _, rfl, hW2, p.al, R7, .inr (.inl ⟨p.ne, rfl, fun H8 E' s8 => ⟨x, le, l2, ld, Wd, d, ls, .log n g l, rfl, R7.same s8, s8 _ _ hW2, h, by omega, fun nl => absurd rfl (nl n g l), fun n' g' l' ee H9 pp l3 v free RR hp fr9 => ?_⟩⟩)⟩
          cases ee
          walk_at "rd"
          refine ⟨rfl, _, rfl, ?_⟩
          refine ite2 (fun b => absurd b (by decide)) (fun _ => ?_)
          exact ⟨_, _, _, _, _, l3, (.ref pp), d, (some (n, g, [])), [], rfl, RR, ⟨rfl, pp, v, rfl, hp⟩, k, ((sm.trans (s37.trans s8)).free free), (fun b u z => fr9 b u (s8 _ _ (s37 _ _ (sm _ _ z))) (ne_of_none z nx) (ne_of_none z fle) (ne_of_none z f2) (ne_of_none z fld)), Nat.le_trans (goes_len k) l100⟩
        | @row n g a t l h =>
          obtain ⟨rfl, pp, v, rfl, hp⟩ := op
          refine ⟨x, Wd, le, l2, ld, .ref pp, d, ls, _, rfl, hW2, p.al, R7, .inr (.inr (.inr ⟨p.ne, by simp, ⟨pp, rfl⟩, fun H8 E' s8 => ⟨x, le, l2, ld, pp, Wd, v, n, g, a, t, d, ls, rfl, R7.same s8, s8 _ _ (s37 _ _ hp), s8 _ _ hW2, nWl, h, fun H9 RR fr9 => ?_⟩⟩))⟩
          have hp9 := fr9 _ _ (s8 _ _ (s37 _ _ hp)) (fun z => by rw [z, hx3] at hp; cases hp) (fun z => by obtain ⟨_, _, q1, _⟩ := R3.en; rw [z, q1] at hp; cases hp) (fun z => by obtain ⟨_, _, q1, _⟩ := R3.li; rw [z, q1] at hp; cases hp) (fun z => by obtain ⟨_, _, _, q1, _⟩ := R3.en; rw [z, q1] at hp; cases hp)
          walk_at "rd"
          refine ⟨rfl, _, rfl, ?_⟩
          refine ite2 (fun b => absurd b (by decide)) (fun _ => ?_)
          exact ⟨_, _, _, _, _, l2, (.ref pp), d, (some (n, g, ls ++ [(a, t)])), (ls ++ [(a, t)]), rfl, RR, ⟨rfl, pp, v, rfl, hp9⟩, k, f2, (fun b u z => fr9 b u (s8 _ _ (s37 _ _ (sm _ _ z))) (ne_of_none z nx) (ne_of_none z fle) (ne_of_none z f2) (ne_of_none z fld)), Nat.le_trans (goes_len k) l100⟩
        | @fin n g l h =>
          obtain ⟨rfl, pp, v, rfl, hp⟩ := op
          refine ⟨x, Wd, le, l2, ld, .ref pp, d, ls, _, rfl, hW2, p.al, R7, .inr (.inr (.inl ⟨rfl, ⟨pp, rfl⟩, fun H8 E' s8 => ⟨x, le, l2, ld, pp, v, n, g, d, ls, rfl, R7.same s8, s8 _ _ (s37 _ _ hp), h, by omega, fun H9 RR fr9 => ?_⟩⟩))⟩
          walk_at "rd"
          refine ⟨rfl, _, rfl, ?_⟩
          refine ite2 (fun b => absurd b (by decide)) (fun _ => ?_)
          exact ⟨_, _, _, _, _, l2, .non, (d ++ [.log n g ls]), none, ls, rfl, RR, rfl, k, f2, (fun b u z => fr9 b u (s8 _ _ (s37 _ _ (sm _ _ z))) (ne_of_none z nx) (ne_of_none z fle) (ne_of_none z f2) (ne_of_none z fld)), Nat.le_trans (goes_len k) l100⟩
    rintro st H3 ⟨x3, x4, x5, x6, x7, l2, lg, d, o, ls, rfl, R3, op, gs, f2, sm, _⟩
    rw [List.length_map, List.drop_length] at gs
    cases gs
    obtain ⟨dx3, hx3⟩ := id R3.ob
    have l0 : lg = .non := op
    walk_at "rd"
    refine ⟨x, D, dx3, _, lg, rfl, hx3, c, n2, rfl, ?_⟩
    walk_at "rd"
    refine ⟨rfl, _, rfl, ?_⟩
    rw [l0]
    refine ite2 (fun y => absurd y (by decide)) (fun _ => ?_)
    walk_at "rd"
    refine ⟨x, D, dx3, _, .ref le, rfl, hx3, c, n1, rfl, ?_⟩
    obtain ⟨ps, lps, hle, hld, at_⟩ := R3.en
    exact q le H3 (s1.free fle) (s1.trans sm) ⟨ps, lps, hle, at_⟩
end
end HT
namespace HT
open PySem L2 TL
theorem tl_sp : tl (" " : Str) = [32] := by decide +kernel
theorem tl_nl : tl ("\n" : Str) = [10] := by decide +kernel
theorem words_line {ws : List Str} (p : LineP ws) : wordsOfL (lineW ws) = ws := by
  unfold wordsOfL lineW
  rw [split_join (s := 32) (S := []) tl_sp (by decide +kernel) p.ne (fun z hz => (p.al z hz).sp)]
  rw [List.filter_eq_self]
  intro z hz
  refine decide_eq_true fun e => (p.al z hz).ne ?_
  rw [e]
  decide +kernel
theorem nl_free {z : Str} {ws : List Str} (p : LineP ws) (e : z = lineW ws) : 10 ∉ tl z := by
  rw [e]
  cases ws with
  | nil => exact absurd rfl p.ne
  | cons w ws =>
    rw [tl_line]
    have key : ∀ vs : List Str, (∀ z ∈ vs, WordP z) → 10 ∉ StrLaws.glueL [32] vs := by
      intro vs
      induction vs with
      | nil => intro _ h; cases h
      | cons v vs ih =>
        intro h m
        have m' : 10 ∈ [32] ++ (tl v ++ StrLaws.glueL [32] vs) := m
        rcases List.mem_append.mp m' with m | m
        · rcases List.mem_singleton.mp m with z
          cases z
        · rcases List.mem_append.mp m with m | m
          · exact (h v List.mem_cons_self).nl m
          · exact ih (fun z hz => h z (List.mem_cons_of_mem _ hz)) m
    intro m
    rcases List.mem_append.mp m with m | m
    · exact (p.al w List.mem_cons_self).nl m
    · exact key ws (fun z hz => p.al z (List.mem_cons_of_mem _ hz)) m
theorem join_ends : ∀ ps : List (List Nat), joinL [] (ps.map fun p => p ++ [10]) = joinL [10] (ps ++ [[]])
  | [] => rfl
  | [p] => by
    show p ++ [10] = p ++ ([10] ++ [])
    rw [List.append_nil]
  | p :: q :: r => by
    show (p ++ [10]) ++ ([] ++ joinL [] ((q :: r).map fun p => p ++ [10])) = p ++ ([10] ++ joinL [10] ((q :: r) ++ [[]]))
    rw [join_ends (q :: r), List.nil_append, List.append_assoc]
/-- a paper's text is its lines and an empty one, joined -/
theorem paper_join (es : List Ent) : paperT es = Txt.join "\n" ((allW es).map lineW ++ [("" : Str)]) := by
  apply ext_tl
  have k0 : tl ("" : Str) = [] := by decide +kernel
  unfold paperT
  rw [join_eq, join_eq, TL.tl_join, TL.tl_join, k0, tl_nl, List.map_append]
  rw [show ((((allW es).map lineW).map fun z => z ++ ("\n" : Str)).map tl) = (((allW es).map lineW).map tl).map fun p => p ++ [10] from by
    generalize (allW es).map lineW = zs
    rw [List.map_map, List.map_map]
    refine List.map_congr_left fun x _ => ?_
    show tl (x ++ ("\n" : Str)) = tl x ++ [10]
    rw [tl_append, tl_nl]]
  rw [join_ends]
  rfl
theorem lines_free {es : List Ent} (p : ∀ ws ∈ allW es, LineP ws) : ∀ z ∈ (allW es).map lineW ++ [("" : Str)], 10 ∉ tl z := by
  intro z hz
  rcases List.mem_append.mp hz with h | h
  · obtain ⟨ws, hw, rfl⟩ := List.mem_map.mp h
    exact nl_free (p ws hw) rfl
  · rcases List.mem_singleton.mp h with rfl
    decide +kernel
theorem paper_split {es : List Ent} (p : ∀ ws ∈ allW es, LineP ws) : Txt.split (paperT es) "\n" = (allW es).map lineW ++ [("" : Str)] := by
  rw [paper_join]
  exact split_join (s := 10) (S := []) tl_nl (by decide +kernel) (by simp) (lines_free p)
theorem words_none : wordsOfL ("" : Str) = [] := by decide +kernel
/-- texts of which the lines' words, without the empty ones, are those of the entries -/
theorem goes_lines {es : List Ent} {ls : List Str} (ok : AllOk es) (h : ((ls.map wordsOfL).filter fun ws => decide (ws ≠ [])) = allW es) : Goes [] none (ls.map wordsOfL) es := by
  refine goes_skip _ ?_
  rw [h]
  have g := goes_all es [] fun i e hx => ok i e hx
  rwa [List.nil_append] at g
theorem words_filter {es : List Ent} (p : ∀ ws ∈ allW es, LineP ws) : ((((allW es).map lineW).map wordsOfL).filter fun ws => decide (ws ≠ [])) = allW es := by
  have e : ((allW es).map lineW).map wordsOfL = allW es := by
    rw [List.map_map]
    conv => rhs; rw [← List.map_id (allW es)]
    exact List.map_congr_left fun ws hw => words_line (p ws hw)
  rw [e, List.filter_eq_self]
  exact fun ws hw => decide_eq_true (p ws hw).ne
theorem paper_goes {es : List Ent} (ok : AllOk es) : Goes [] none ((Txt.split (paperT es) "\n").map wordsOfL) es := by
  obtain ⟨_, p⟩ := all_words es [] (fun i e h => ok i e h)
  rw [paper_split p]
  refine goes_lines ok ?_
  rw [List.map_append, List.filter_append, words_filter p]
  show allW es ++ List.filter _ [wordsOfL ("" : Str)] = _
  rw [words_none]
  exact List.append_nil _
end HT
namespace HT
open PySem L2 TL
theorem join_last : ∀ ps : List (List Nat), ps ≠ [] → joinL [10] (ps ++ [[]]) = joinL [10] ps ++ [10]
  | [], h => absurd rfl h
  | [p], _ => by
    show p ++ ([10] ++ []) = p ++ [10]
    rw [List.append_nil]
  | p :: q :: r, _ => by
    show p ++ ([10] ++ joinL [10] ((q :: r) ++ [[]])) = (p ++ ([10] ++ joinL [10] (q :: r))) ++ [10]
    rw [join_last (q :: r) (by simp), List.append_assoc, List.append_assoc]
/-- the paper's text without its last sign -/
theorem paper_cut {es : List Ent} (ne : allW es ≠ []) (p : ∀ ws ∈ allW es, LineP ws) : Txt.split (cutS (paperT es) none (some (-1))) "\n" = (allW es).map lineW := by
  have e : cutS (paperT es) none (some (-1)) = Txt.join "\n" ((allW es).map lineW) := by
    apply ext_tl
    have k0 : tl ("" : Str) = [] := by decide +kernel
    have t : tl (paperT es) = joinL [10] (((allW es).map lineW).map tl) ++ [10] := by
      rw [paper_join, join_eq, TL.tl_join, tl_nl, List.map_append]
      show joinL [10] (((allW es).map lineW).map tl ++ [tl ("" : Str)]) = _
      rw [k0, join_last _ (by simp [ne])]
    rw [join_eq, TL.tl_join, tl_nl]
    have z : tl (cutS (paperT es) none (some (-1))) = (tl (paperT es)).take ((tl (paperT es)).length - 1) := by
      have hl := len_tl (paperT es)
      show ((tl (paperT es)).drop (HT.sIx (paperT es).length 0 none)).take (HT.sIx (paperT es).length (paperT es).length (some (-1)) - HT.sIx (paperT es).length 0 none) = _
      have e0 : HT.sIx (paperT es).length 0 none = 0 := rfl
      have e1 : HT.sIx (paperT es).length (paperT es).length (some (-1)) = (paperT es).length - 1 := by
        unfold HT.sIx
        simp
        omega
      rw [e0, e1, List.drop_zero, Nat.sub_zero, hl]
    rw [z, t, List.length_append]
    show List.take (_ + 1 - 1) _ = _
    rw [Nat.add_sub_cancel, List.take_left]
  rw [e]
  exact split_join (s := 10) (S := []) tl_nl (by decide +kernel) (by simp [ne]) (fun z hz => lines_free p z (List.mem_append_left _ hz))
theorem cut_goes {es : List Ent} (ok : AllOk es) (ne : allW es ≠ []) : Goes [] none ((Txt.split (cutS (paperT es) none (some (-1))) "\n").map wordsOfL) es := by
  obtain ⟨_, p⟩ := all_words es [] (fun i e h => ok i e h)
  rw [paper_cut ne p]
  exact goes_lines ok (words_filter p)
end HT
namespace HT
open PySem L2 TL
/-- the words of a list of signs -/
def wl (l : List Nat) : List (List Nat) := (spl [32] 0 [] l).filter fun p => decide (p ≠ [])
theorem wl_sp (r : List Nat) : wl (32 :: r) = wl r := by
  have e := spl_part1 (s := 32) (S := []) (p := []) (rest := r) (acc := []) (by simp)
  unfold wl
  rw [show (32 :: r : List Nat) = [] ++ (32 :: [] ++ r) from rfl, e, List.filter_cons, if_neg (by simp)]
theorem wl_word {p : List Nat} (r : List Nat) (h : 32 ∉ p) (n : p ≠ []) : wl (p ++ 32 :: r) = p :: wl r := by
  have e := spl_part1 (s := 32) (S := []) (p := p) (rest := r) (acc := []) h
  unfold wl
  rw [show p ++ 32 :: r = p ++ (32 :: [] ++ r) from rfl, e, List.filter_cons, if_pos (by simp [n])]
  rfl
theorem wl_last {p : List Nat} (h : 32 ∉ p) (n : p ≠ []) : wl p = [p] := by
  have e := spl_last1 (s := 32) (S := []) (p := p) (acc := []) h
  unfold wl
  rw [e, List.filter_cons, if_pos (by simp [n])]
  rfl
theorem wl_nil : wl [] = [] := by decide +kernel
theorem wl_blanks (r : List Nat) : ∀ a : Nat, wl (List.replicate a 32 ++ r) = wl r
  | 0 => rfl
  | a + 1 => by rw [List.replicate_succ, List.cons_append, wl_sp, wl_blanks r a]
theorem wl_only (a : Nat) : wl (List.replicate a 32) = [] := by
  have := wl_blanks [] a
  rwa [List.append_nil, wl_nil] at this
theorem wl_body (m b : Nat) : ∀ ps : List (List Nat), (∀ p ∈ ps, 32 ∉ p ∧ p ≠ []) → wl (joinL (List.replicate (m + 1) 32) ps ++ List.replicate b 32) = ps
  | [], _ => wl_only b
  | [p], h => by
    obtain ⟨h1, h2⟩ := h p List.mem_cons_self
    show wl (p ++ List.replicate b 32) = [p]
    cases b with
    | zero => rw [show List.replicate 0 32 = ([] : List Nat) from rfl, List.append_nil]; exact wl_last h1 h2
    | succ b => rw [List.replicate_succ, wl_word _ h1 h2, wl_only]
  | p :: q :: r, h => by
    obtain ⟨h1, h2⟩ := h p List.mem_cons_self
    show wl ((p ++ (List.replicate (m + 1) 32 ++ joinL (List.replicate (m + 1) 32) (q :: r))) ++ List.replicate b 32) = _
    rw [List.append_assoc, List.append_assoc, List.replicate_succ, List.cons_append, wl_word _ h1 h2, ← List.replicate_succ, wl_blanks, wl_body m b (q :: r) fun x hx => h x (List.mem_cons_of_mem _ hx)]
theorem words_wl (z : Str) : (wordsOfL z).map tl = wl (tl z) := by
  have e := split_spl z (" " : Str) (by decide +kernel) (kind_ok (by decide +kernel))
  rw [tl_sp] at e
  unfold wordsOfL wl
  rw [← e, List.filter_map]
  congr 1
  refine List.filter_congr fun x _ => ?_
  have : (x ≠ ("" : Str)) ↔ (tl x ≠ []) := by
    have k : tl ("" : Str) = [] := by decide +kernel
    constructor
    · intro h h2
      exact h (ext_tl (h2.trans k.symm))
    · intro h h2
      exact h (by rw [h2, k])
  show decide _ = decide _
  by_cases h : x ≠ ("" : Str)
  · rw [decide_eq_true h, decide_eq_true (this.mp h)]
  · rw [decide_eq_false h, decide_eq_false fun h2 => h (this.mpr h2)]
/-- a line with more blanks has the same words -/
theorem words_loose {ws : List Str} (p : LineP ws) {z : Str} {a b m : Nat} (e : tl z = List.replicate a 32 ++ (joinL (List.replicate (m + 1) 32) (ws.map tl) ++ List.replicate b 32)) : wordsOfL z = ws := by
  refine map_tl_inj ?_
  rw [words_wl, e, wl_blanks, wl_body]
  intro q hq
  obtain ⟨x, hx, rfl⟩ := List.mem_map.mp hq
  exact ⟨(p.al x hx).sp, (p.al x hx).ne⟩
theorem words_blank {z : Str} {a : Nat} (e : tl z = List.replicate a 32) : wordsOfL z = [] := by
  have h := words_wl z
  rw [e, wl_only] at h
  exact List.map_eq_nil_iff.mp h
theorem repl_free (y : List Nat) (r : List Nat) : ∀ p : List Nat, 32 ∉ p → StrLaws.replL [32] y (p ++ r) = p ++ StrLaws.replL [32] y r
  | [], _ => rfl
  | c :: p, h => by
    have hc : c ≠ 32 := fun e => h (by rw [e]; exact List.mem_cons_self)
    rw [List.cons_append, StrLaws.replL_miss (by intro z; exact hc (by injection z)), repl_free y r p fun z => h (List.mem_cons_of_mem _ z)]
    rfl
theorem repl_sp (y r : List Nat) : StrLaws.replL [32] y (32 :: r) = y ++ StrLaws.replL [32] y r := StrLaws.replL_hit (by simp) rfl
theorem repl_join (y : List Nat) : ∀ ps : List (List Nat), (∀ p ∈ ps, 32 ∉ p) → StrLaws.replL [32] y (joinL [32] ps) = joinL y ps
  | [], _ => StrLaws.replL_nil
  | [p], h => by
    have := repl_free y [] p (h p List.mem_cons_self)
    rwa [List.append_nil, StrLaws.replL_nil, List.append_nil] at this
  | p :: q :: r, h => by
    show StrLaws.replL [32] y (p ++ (32 :: joinL [32] (q :: r))) = p ++ (y ++ joinL y (q :: r))
    rw [repl_free y _ p (h p List.mem_cons_self), repl_sp, repl_join y (q :: r) fun x hx => h x (List.mem_cons_of_mem _ hx)]
/-- line.replace(' ', m blanks) -/
theorem wide_line {ws : List Str} (p : LineP ws) {y : Str} {m : Nat} (hy : tl y = List.replicate m 32) : tl (Txt.replace (lineW ws) " " y) = joinL (List.replicate m 32) (ws.map tl) := by
  have e := StrLaws.replace_list (x := lineW ws) (y := (" " : Str)) (z := y) (by decide +kernel)
  show (Txt.replace (lineW ws) " " y).cps.toList = _
  rw [e, show (" " : Str).cps.toList = [32] from tl_sp, show y.cps.toList = List.replicate m 32 from hy]
  rw [show (lineW ws).cps.toList = joinL [32] (ws.map tl) from by
    show tl (lineW ws) = _
    unfold lineW
    rw [join_eq, TL.tl_join, tl_sp]]
  refine repl_join _ _ fun q hq => ?_
  obtain ⟨x, hx, rfl⟩ := List.mem_map.mp hq
  exact (p.al x hx).sp
end HT
namespace HT
open PySem L2
structure MaxT (mg : Str → Option Value) : Prop where
  max : mg "max" = none
  min : mg "min" = none
def spGreat : Sp := fun vs H Q _ => ∃ (a c : Addr) (t : Nat) (lim : Int), vs = [.ref a, .int lim] ∧ Src H a c t ∧ 0 < lim ∧ t + 5 < 2 ^ 30 ∧
  ∀ k H', 0 ≤ k → k < lim → Src H' a c (t + 5) → Oth a c H H' → Q (.int k) H'
def spTen : Sp := fun vs H Q _ => ∃ (n : Nat), vs = [.int (n : Int)] ∧ n ≤ 1000 ∧ Q (.int (10 ^ n)) H
def spStep : Sp := fun vs H Q _ => ∃ (a c : Addr) (t : Nat) (mo : Int), vs = [.ref a, .int mo] ∧ Src H a c t ∧ 1 ≤ mo ∧ mo ≤ 10 ^ 30 ∧ t + 20 < 2 ^ 30 ∧
  ∀ s H' t', 1 ≤ s → s ≤ mo → t' ≤ t + 20 → Src H' a c t' → Oth a c H H' → Q (.int s) H'
def spSide : Sp := fun vs H Q _ => ∃ (a c : Addr) (t : Nat) (mo : Int), vs = [.ref a, .int mo] ∧ Src H a c t ∧ 1 ≤ mo ∧ mo ≤ 10 ^ 30 ∧ t + 40 < 2 ^ 30 ∧
  ∀ p o s m H' t', H p = none → H' p = some (sideV o s m) → (1 ≤ s ∧ s ≤ mo ∧ -s ≤ o ∧ o < 2 * s ∧ Mode m) → t' ≤ t + 40 → Src H' a c t' → Oth a c H H' → Q (.ref p) H'
theorem lg_small {n : Int} (h0 : 0 ≤ n) (h : n < 2 ^ 64) : n.natAbs.log2 < 9000 := by
  obtain ⟨m, rfl⟩ := Int.eq_ofNat_of_zero_le h0
  exact lg_nat (Nat.lt_of_lt_of_le (by omega : m < 2 ^ 64) (Nat.pow_le_pow_right (by decide) (by decide)))
section
variable {P : Program} {w : World} {K : PySem.W.Frag} {mg : Str → Option Value} {base : Heap} {fD fP fG fT fS : Addr} {dD dP dG dT dS : FuncData}
theorem ok_great {f : Addr} {fd : FuncData} (F : Fun K "_law_great" "_law_great" s_L_great f fd) (B : Blt mg) (D : Cal P w K mg base "_law_draw" 1 ["_law_source_here", "_law_limit"] spDraw fD dD) :
    FnOk P w K mg base CX0 2 f fd ["_law_source_here", "_law_limit"] spGreat := by
  refine F.ok sc_L_great (fun vs H Q E h => ?_) (fun cdv A outer s H vs Q E hr h => ?_)
  · obtain ⟨a, c, t, lim, rfl, _⟩ := h
    rfl
  · obtain ⟨a, c, t, lim, rfl, S, hl, ht, q⟩ := h
    have nd := sc_L_great.nd
    refine ⟨_, pss_cons (ps_set (i := 2) nd rfl (Or.inl rfl) pe_int)
      (pss_cons (ps_for PassesOwn.never rfl (pi_range1 (by rfl) B.range (pa_cons pe_int pa_nil)) (pg_name (i := 3) nd rfl (Or.inl rfl))
        (pss_one (ps_set (i := 2) nd rfl (Or.inl rfl) (pe_op op_add (pe_op op_mul (pv 2) (pe_op op_pow pe_int pe_int)) (pcl D hr (by decide) (by rfl) (pa_cons (pv 0) (pa_cons (pe_op op_pow pe_int pe_int) pa_nil)))))))
      (pss_one (ps_ret (pe_op op_mod (pe_callTy call_int1 (by rfl) B.int (by decide +kernel) (pa_cons (pv 2) pa_nil)) (pv 1))))), ?_⟩
    walk_at "rd"
    refine ⟨by decide, by decide, ?_⟩
    refine for_range (n := 5) (fun i σ H' => ∃ (k : Int) (kv : Option V), σ = [some (.ref a), some (.int lim), some (.int k), kv] ∧ Src H' a c (t + i) ∧ Oth a c H H') ⟨0, none, rfl, S, Oth.refl _ _ _⟩ ?_ ?_
    · rintro i σ H' hi ⟨k, kv, rfl, S', O⟩
      walk_at "rd"
      refine ⟨⟨by decide, by decide, by decide⟩, ?_⟩
      walk_at "rd"
      refine ⟨.inr ⟨by decide, by decide⟩, ?_⟩
      walk_at "rd"
      refine ⟨⟨by decide, by decide, by decide⟩, ?_⟩
      refine ⟨a, c, t + i, _, rfl, S', by omega, (by decide), lg_small (by decide) (by decide), fun y H2 y0 y1 S2 O2 => ?_⟩
      walk_at "rd"
      exact ⟨_, _, rfl, S2, O.trans O2⟩
    · rintro σ H' ⟨k, kv, rfl, S', O⟩
      walk_at "rd"
      refine ⟨hl, ?_⟩
      exact q _ _ (Int.emod_nonneg _ (by omega)) (Int.emod_lt_of_pos _ hl) S' O
theorem ok_ten {f : Addr} {fd : FuncData} (F : Fun K "_law_ten" "_law_ten" s_L_ten f fd) (B : Blt mg) : FnOk P w K mg base CX0 1 f fd ["_law_many"] spTen := by
  refine F.ok sc_L_ten (fun vs H Q E h => ?_) (fun cdv A outer s H vs Q E hr h => ?_)
  · obtain ⟨n, rfl, _⟩ := h
    rfl
  · obtain ⟨n, rfl, hn, q⟩ := h
    have nd := sc_L_ten.nd
    refine ⟨_, pss_cons (ps_set (i := 1) nd rfl (Or.inl rfl) pe_int)
      (pss_cons (ps_for PassesOwn.never rfl (pi_range1 (by rfl) B.range (pa_cons (pv 0) pa_nil)) (pg_name (i := 2) nd rfl (Or.inl rfl))
        (pss_one (ps_set (i := 1) nd rfl (Or.inl rfl) (pe_op op_mul (pv 1) pe_int))))
      (pss_one (ps_ret (pv 1)))), ?_⟩
    walk_at "rd"
    refine ⟨by omega, by omega, ?_⟩
    rw [Int.toNat_natCast]
    refine for_range (fun i σ H' => ∃ (kv : Option V), σ = [some (.int (n : Int)), some (.int (10 ^ i)), kv] ∧ H' = H) ⟨none, rfl, rfl⟩ ?_ ?_
    · rintro i σ H' hi ⟨kv, rfl, rfl⟩
      walk_at "rd"
      refine ⟨.inr ⟨by decide, by decide⟩, ?_⟩
      exact ⟨_, rfl, rfl⟩
    · rintro σ H' ⟨kv, rfl, rfl⟩
      walk_at "rd"
      exact q
end
theorem joint_of {x : V} (h : x ∈ [V.int 1, .int 2, .int 6, .int ((10 : Int) ^ (9 : Int).toNat), .int 360, .int ((2 : Int) ^ (40 : Int).toNat), .int ((10 : Int) ^ (9 : Int).toNat + 7), .int ((10 : Int) ^ (15 : Int).toNat), .int ((3 : Int) ^ (20 : Int).toNat)]) : ∃ j : Int, x = .int j ∧ 1 ≤ j ∧ j ≤ 10 ^ 15 := by
  simp only [List.mem_cons, List.not_mem_nil, or_false] at h
  rcases h with h | h | h | h | h | h | h | h | h <;> exact ⟨_, h, by decide, by decide⟩
theorem mulW {i j : Int} (hi : -2 ^ 1010 < i ∧ i < 2 ^ 1010) (hj : -2 ^ 1010 < j ∧ j < 2 ^ 1010) : CMulW i j := wide_mul (a := 1010) (b := 1010) (by omega) (by omega) (by decide) (by decide) (by decide)
theorem pow10_le {n k : Nat} (h : n ≤ k) : (10 : Int) ^ n ≤ 10 ^ k := by
  have z := Nat.pow_le_pow_right (show 0 < 10 by decide) h
  have e : ∀ j : Nat, ((10 ^ j : Nat) : Int) = (10 : Int) ^ j := fun j => Int.natCast_pow 10 j
  rw [← e, ← e]
  omega
theorem sq_bound {a b : Int} (a0 : 1 ≤ a) (b0 : 1 ≤ b) : 1 ≤ a * b := Int.mul_pos a0 b0
section
variable {P : Program} {w : World} {K : PySem.W.Frag} {mg : Str → Option Value} {base : Heap} {fD fP fG fT fS fE fI fW : Addr} {dD dP dG dT dS dE dI dW : FuncData}
theorem ok_step {f : Addr} {fd : FuncData} (F : Fun K "_law_step" "_law_step" s_L_step f fd) (B : Blt mg) (MT : MaxT mg) (D : Cal P w K mg base "_law_draw" 1 ["_law_source_here", "_law_limit"] spDraw fD dD)
    (Pk : Cal P w K mg base "_law_pick" 2 ["_law_source_here", "_law_values"] spPick fP dP) (G : Cal P w K mg base "_law_great" 2 ["_law_source_here", "_law_limit"] spGreat fG dG) (Tn : Cal P w K mg base "_law_ten" 1 ["_law_many"] spTen fT dT) : FnOk P w K mg base CX0 3 f fd ["_law_source_here", "_law_most"] spStep := by
  refine F.ok sc_L_step (fun vs H Q E h => ?_) (fun cdv A outer s H vs Q E hr h => ?_)
  · obtain ⟨a, c, t, mo, rfl, _⟩ := h
    rfl
  · obtain ⟨a, c, t, mo, rfl, S, m0, m1, ht, q⟩ := h
    have nd := sc_L_step.nd
    refine ⟨_, (pss_cons (ps_if (pt_cmpR op_lt (pv 1) pe_int (nomark _)) (pss_one (ps_ret (pe_op op_add pe_int (pcl D hr (by decide) (by rfl) (pa_cons (pv 0) (pa_cons (pv 1) pa_nil)))))) pss_nil)
      (pss_cons (ps_set (i := 2) nd rfl (Or.inl rfl) (pcl Pk hr (by decide) (by rfl) (pa_cons (pv 0) (pa_cons (pe_lst (pa_cons pe_int (pa_cons pe_int (pa_cons pe_int (pa_cons (pe_op op_pow pe_int pe_int) (pa_cons pe_int (pa_cons (pe_op op_pow pe_int pe_int) (pa_cons (pe_op op_add (pe_op op_pow pe_int pe_int) pe_int) (pa_cons (pe_op op_pow pe_int pe_int) (pa_cons (pe_op op_pow pe_int pe_int) pa_nil)))))))))) pa_nil))))
      (pss_one (ps_ret (pe_callB (call_min2 rfl) (by rfl) MT.min (by decide +kernel) (pa_cons (pv 1) (pa_cons (pe_op op_mulW (pv 2) (pe_op op_add pe_int (pcl G hr (by decide) (by rfl) (pa_cons (pv 0) (pa_cons (pcl Tn hr (by decide) (by rfl) (pa_cons (pe_op op_add pe_int (pcl D hr (by decide) (by rfl) (pa_cons (pv 0) (pa_cons pe_int pa_nil)))) pa_nil)) pa_nil))))) pa_nil))))))), ?_⟩
    walk_at "rd"
    refine ite2 (fun h => ?_) (fun h => ?_)
    · have h' := of_decide_eq_true h
      walk_at "rd"
      refine ⟨a, c, t, mo, rfl, S, by omega, by omega, lg_small (by omega) (by omega), fun k H1 k0 k1 S1 O1 => ?_⟩
      walk_at "rd"
      exact q _ _ _ (by omega) (by omega) (by omega) S1 O1
    walk_at "rd"
    refine ⟨⟨by decide, by decide, by decide⟩, ?_⟩
    walk_at "rd"
    refine ⟨⟨by decide, by decide, by decide⟩, ?_⟩
    walk_at "rd"
    refine ⟨⟨by decide, by decide, by decide⟩, ?_⟩
    walk_at "rd"
    refine ⟨⟨by decide, by decide, by decide⟩, ?_⟩
    walk_at "rd"
    refine ⟨⟨by decide, by decide, by decide⟩, ?_⟩
    refine ⟨(by show 9 ≤ sizeLine; decide), fun l nl => ?_⟩
    obtain ⟨la, lc⟩ := S.na nl
    refine ⟨a, c, t, l, _, rfl, S.new nl, by omega, upd_same, la, lc, by decide, by decide, fun x H1 hx S1 O1 => ?_⟩
    obtain ⟨j, rfl, j0, j1⟩ := joint_of hx
    have O1' : Oth a c H H1 := ((Oth.refl a c H).new nl).trans O1
    walk_at "rd"
    refine ⟨a, c, _, 22, rfl, S1, by omega, by decide, lg_small (by decide) (by decide), fun k H2 k0 k1 S2 O2 => ?_⟩
    walk_at "rd"
    refine ⟨(1 + k).toNat, (by show [V.int (1 + k)] = [V.int _]; rw [Int.toNat_of_nonneg (by omega)]), by omega, ?_⟩
    have tp : (1 : Int) ≤ 10 ^ (1 + k).toNat := Int.pow_pos (by decide)
    have tb : (10 : Int) ^ (1 + k).toNat ≤ 10 ^ 22 := pow10_le (by omega)
    refine ⟨a, c, _, _, rfl, S2, by omega, by omega, fun g H3 g0 g1 S3 O3 => ?_⟩
    walk_at "rd"
    refine ⟨mulW (by omega) (by omega), ?_⟩
    refine ⟨_, _, rfl, ?_⟩
    have p1 := sq_bound (a := j) (b := 1 + g) j0 (by omega)
    have fin : ∀ z : Int, 1 ≤ z → z ≤ mo → Q (.int z) H3 := fun z z0 z1 => q z H3 _ z0 z1 (by omega) S3 ((O1'.trans O2).trans O3)
    refine fin _ ?_ ?_
    · split <;> omega
    · split <;> omega
theorem ok_side {f : Addr} {fd : FuncData} (F : Fun K "_law_side" "_law_side" s_L_side f fd) (B : Blt mg) (St : Cal P w K mg base "_law_step" 3 ["_law_source_here", "_law_most"] spStep fS dS)
    (Pk : Cal P w K mg base "_law_pick" 2 ["_law_source_here", "_law_values"] spPick fP dP) (G : Cal P w K mg base "_law_great" 2 ["_law_source_here", "_law_limit"] spGreat fG dG) : FnOk P w K mg base CX0 4 f fd ["_law_source_here", "_law_most"] spSide := by
  refine F.ok sc_L_side (fun vs H Q E h => ?_) (fun cdv A outer s H vs Q E hr h => ?_)
  · obtain ⟨a, c, t, mo, rfl, _⟩ := h
    rfl
  · obtain ⟨a, c, t, mo, rfl, S, m0, m1, ht, q⟩ := h
    have nd := sc_L_side.nd
    refine ⟨_, (pss_cons (ps_set (i := 2) nd rfl (Or.inl rfl) (pcl St hr (by decide) (by rfl) (pa_cons (pv 0) (pa_cons (pv 1) pa_nil))))
      (pss_cons (ps_set (i := 3) nd rfl (Or.inl rfl) (pe_op op_sub (pcl G hr (by decide) (by rfl) (pa_cons (pv 0) (pa_cons (pe_op op_mul pe_int (pv 2)) pa_nil))) (pv 2)))
      (pss_one (ps_ret (pe_tup (pa_cons (pv 3) (pa_cons (pv 2) (pa_cons (pcl Pk hr (by decide) (by rfl) (pa_cons (pv 0) (pa_cons (pe_lst (pa_cons pe_str (pa_cons pe_str (pa_cons pe_str (pa_cons pe_str (pa_cons pe_str pa_nil)))))) pa_nil))) pa_nil)))))))), ?_⟩
    walk_at "rd"
    refine ⟨a, c, t, mo, rfl, S, m0, m1, by omega, fun s H1 t1 s0 s1 ht1 S1 O1 => ?_⟩
    walk_at "rd"
    refine ⟨.inl ⟨by decide, by decide⟩, ?_⟩
    refine ⟨a, c, t1, 3 * s, rfl, S1, by omega, by omega, fun g H2 g0 g1 S2 O2 => ?_⟩
    walk_at "rd"
    refine ⟨(by show 5 ≤ sizeLine; decide), fun l nl => ?_⟩
    obtain ⟨la, lc⟩ := S2.na nl
    refine ⟨a, c, _, l, _, rfl, S2.new nl, by omega, upd_same, la, lc, by decide, by decide, fun x H3 hx S3 O3 => ?_⟩
    obtain ⟨m, rfl, hm⟩ := mode_of hx
    refine ⟨(by show 3 ≤ sizeLine; decide), fun d nd' => ?_⟩
    have O4 : Oth a c H H3 := (O1.trans O2).trans (((Oth.refl a c H2).new nl).trans O3)
    have hdn : H d = none := by
      cases e : H d with
      | none => rfl
      | some u =>
        by_cases da : d = a
        · subst da; rw [S3.ob] at nd'; cases nd'
        · by_cases dc : d = c
          · obtain ⟨cs, hcs, _⟩ := S3.cl
            subst dc; rw [hcs] at nd'; cases nd'
          · rw [O4 _ _ e da dc] at nd'; cases nd'
    exact q d _ s m _ _ hdn upd_same ⟨s0, s1, by omega, by omega, hm⟩ (by omega) (S3.new nd') (O4.new nd')
end
end HT
namespace HT
open PySem L2 TL
def spLLines : Sp := fun vs H Q _ => ∃ (p : Addr) (e : Ent) (es : List Ent), vs = [.ref p] ∧ EntAt H p e ∧ EntOk es e ∧ ∀ (l : Addr) (H' : Hp), H l = none → Same H H' → H' l = some (.lst ((linesE e).map V.str)) → Q (.ref l) H'
section
variable {P : Program} {w : World} {K : PySem.W.Frag} {mg : Str → Option Value} {base : Heap} {aN f1 f2 f3 f4 f5 : Addr} {d1 d2 d3 d4 d5 : FuncData}
theorem ok_L_lines {f : Addr} {fd : FuncData} (F : Fun K "_law_lines" "_law_lines" s_L_lines f fd) (T : EnT K mg aN) (B : Blt mg) : FnOk P w K mg base CX0 1 f fd ["_law_entry"] spLLines := by
  refine F.ok sc_L_lines (fun vs H Q E h => ?_) (fun cdv A outer s0 H vs Q E hr h => ?_)
  · obtain ⟨p, e, es, rfl, _⟩ := h
    rfl
  · obtain ⟨p, e, es, rfl, ea, ok, q⟩ := h
    have nd := sc_L_lines.nd
    refine ⟨_, (pss_cons (ps_if (pt_cmpR op_eq (pe_ix ix_tup (pv 0) pe_int (fun _ _ => rfl)) pe_str (nomark _)) (pss_cons (ps_asg (pe_ix ix_tup (pv 0) pe_int (fun _ _ => rfl)) (pg_tup (by rfl) (pgs_cons (pg_name (i := 1) nd rfl (Or.inl rfl)) (pgs_cons (pg_name (i := 2) nd rfl (Or.inl rfl)) (pgs_cons (pg_name (i := 3) nd rfl (Or.inl rfl)) pgs_nil)))))
      (pss_cons (ps_set (i := 4) nd rfl (Or.inl rfl) (pe_op op_add_str (pe_op op_add_str (pe_op op_add_str (pe_op op_add_str (pe_op op_add_str (pe_op op_add_str (pe_op op_add_str pe_str (pe_ix ix_tup (pv 0) pe_int (fun _ _ => rfl))) pe_str) (pe_callTy call_str_int (by rfl) T.str (by decide +kernel) (pa_cons (pv 2) pa_nil))) pe_str) (pv 3)) pe_str) (pe_callTy call_str_int (by rfl) T.str (by decide +kernel) (pa_cons (pe_ix ix_tup (pv 0) pe_int (fun _ _ => rfl)) pa_nil))))
      (pss_one (ps_ret (pe_lst (pa_cons (pe_op op_add_str (pv 4) (pe_op op_mulS (pe_op op_add_str pe_str (pe_callTy call_str_int (by rfl) T.str (by decide +kernel) (pa_cons (pv 1) pa_nil))) (pe_callTy call_int1 (by rfl) B.int (by decide +kernel) (pa_cons (pe_cmpR op_ne (pv 1) pe_int (nomark _)) pa_nil)))) pa_nil)))))) pss_nil)
      (pss_cons (ps_if (pt_cmpR op_eq (pe_ix ix_tup (pv 0) pe_int (fun _ _ => rfl)) pe_str (nomark _)) (pss_one (ps_ret (pe_lst (pa_cons (pe_op op_add_str (pe_op op_add_str (pe_op op_add_str pe_str (pe_ix ix_tup (pv 0) pe_int (fun _ _ => rfl))) pe_str) (pe_bm PySem.F.plainAttrs_str PySem.F.slot_str_join PySem.F.type_str_join mt_join pe_str (pa_cons (pe_callTy call_list_of (by rfl) T.list (by decide +kernel) (pa_cons (pe_ix ix_tup (pv 0) pe_int (fun _ _ => rfl)) pa_nil)) pa_nil))) pa_nil)))) pss_nil)
      (pss_cons (ps_set (i := 5) nd rfl (Or.inl rfl) (pe_lst (pa_cons (pe_op op_add_str (pe_op op_add_str (pe_op op_add_str pe_str (pe_ix ix_tup (pv 0) pe_int (fun _ _ => rfl))) pe_str) (pe_ix ix_tup (pv 0) pe_int (fun _ _ => rfl))) pa_nil)))
      (pss_one (ps_ret (pe_op op_cat (pe_op op_cat (pv 5) (pe_lc (own := [("_law_name", 6), ("_law_text_here", 7)]) (g := (gTup K 2 (gCons (gName 6) (gCons (gName 7) gNil)))) (tt := tYes) rfl nd (pi_tup (pe_ix ix_tup (pv 0) pe_int (fun _ _ => rfl))) (blkOk_by (N := ["_law_entry", "_law_offset", "_law_steps", "_law_mode", "_law_line", "_law_found", "_law_name", "_law_text_here"]) (sc := defScope s_L_lines) (by decide +kernel)) (fun _ _ _ _ _ => pg_tup (by rfl) (pgs_cons (pg_name (i := 6) nd rfl (Or.inl rfl)) (pgs_cons (pg_name (i := 7) nd rfl (Or.inl rfl)) pgs_nil))) (fun _ _ _ _ _ => pts_nil) (fun _ _ _ _ _ => (pe_op op_add_str (pe_op op_add_str (pv 6) pe_str) (pv 7))))) (pe_lst (pa_cons pe_str pa_nil)))))))), ?_⟩
    walk_at "rd"
    have c1 : (Str.ofString "side ").length = 5 := by decide +kernel
    have c2 : (Str.ofString " ").length = 1 := by decide +kernel
    have c3 : (Str.ofString " places ").length = 8 := by decide +kernel
    have c4 : (Str.ofString " at ").length = 4 := by decide +kernel
    have c5 : (Str.ofString "set ").length = 4 := by decide +kernel
    have c6 : (Str.ofString "log ").length = 4 := by decide +kernel
    have z : sizeLine = 16777216 := by decide +kernel
    cases e with
    | side n o s m pl =>
      obtain ⟨qa, hp, hq⟩ := id ea
      obtain ⟨hn, _, sp, p60⟩ := ok
      have l1 := (name_facts hn).2.1
      have l2 := mode_len sp.md
      have l3 : (Str.ofString (toString s)).length ≤ 60 := tS_len (by have := sp.s0; have := sp.s1; omega)
      have l4 : (Str.ofString (toString (pl : Int))).length ≤ 60 := tS_len (by omega)
      have l5 : (Str.ofString (toString o)).length ≤ 60 := tS_len (by have := sp.o0; have := sp.o1; omega)
      refine ⟨p, _, _, _, rfl, rfl, SqT.of hp, at0, ?_⟩
      walk_at "rd"
      refine ⟨rfl, _, rfl, ?_⟩
      refine ite2 (fun _ => ?_) (fun z => absurd (decide_eq_true rfl) z)
      walk_at "rd"
      refine ⟨p, _, _, _, rfl, rfl, SqT.of hp, at_nat (k := 2) rfl, ?_⟩
      refine ⟨qa, _, rfl, SqT.of hq, rfl, _, _, rfl, _, _, rfl, _, _, rfl, rfl, ?_⟩
      walk_at "rd"
      refine ⟨p, _, _, _, rfl, rfl, SqT.of hp, at_nat (k := 1) rfl, ?_⟩
      walk_at "rd"
      refine ⟨(by simp only [Str.length_append, c1, c2, c3, c4, c5, c6]; omega), ?_⟩
      walk_at "rd"
      refine ⟨(by simp only [Str.length_append, c1, c2, c3, c4, c5, c6]; omega), ?_⟩
      walk_at "rd"
      refine ⟨lg_ok (by have := sp.s0; have := sp.s1; omega), ?_⟩
      walk_at "rd"
      refine ⟨(by simp only [Str.length_append, c1, c2, c3, c4, c5, c6]; omega), ?_⟩
      walk_at "rd"
      refine ⟨(by simp only [Str.length_append, c1, c2, c3, c4, c5, c6]; omega), ?_⟩
      walk_at "rd"
      refine ⟨(by simp only [Str.length_append, c1, c2, c3, c4, c5, c6]; omega), ?_⟩
      walk_at "rd"
      refine ⟨(by simp only [Str.length_append, c1, c2, c3, c4, c5, c6]; omega), ?_⟩
      walk_at "rd"
      refine ⟨p, _, _, _, rfl, rfl, SqT.of hp, at_nat (k := 3) rfl, ?_⟩
      walk_at "rd"
      refine ⟨lg_ok (by omega), ?_⟩
      walk_at "rd"
      refine ⟨(by simp only [Str.length_append, c1, c2, c3, c4, c5, c6]; omega), ?_⟩
      have lA : Str.ofString "side " ++ n ++ Str.ofString " " ++ Str.ofString (toString s) ++ Str.ofString " " ++ m ++ Str.ofString " places " ++ Str.ofString (toString (pl : Int)) = lineW [("side" : Str), n, tS s, m, "places", tS (pl : Int)] := by
        rw [← side_text, Str.empty_append]
      rw [lA]
      walk_at "rd"
      refine ⟨lg_ok (by have := sp.o0; have := sp.o1; omega), ?_⟩
      walk_at "rd"
      refine ⟨(by simp only [Str.length_append, c1, c2, c3, c4, c5, c6]; omega), ?_⟩
      walk_at "rd"
      refine ⟨rfl, ?_⟩
      have l6 : (lineW [("side" : Str), n, tS s, m, "places", tS (pl : Int)]).length ≤ 2000 := by rw [← lA]; simp only [Str.length_append, c1, c2, c3, c4, c5, c6]; omega
      by_cases o0 : o = 0
      · refine .inr ⟨false, by rw [decide_eq_true (congrArg V.int o0)]; rfl, ?_⟩
        walk_at "rd"
        refine ⟨⟨by decide, fun h => absurd (by decide) h, fun h => absurd (by decide) h⟩, ?_⟩
        walk_at "rd"
        have mz : Txt.mul (Str.ofString " at " ++ Str.ofString (toString o)) (if false = true then 1 else 0) = Str.empty := rfl
        rw [mz]
        refine ⟨by have c0 : Str.empty.length = 0 := by decide +kernel
                   omega, ?_⟩
        walk_at "rd"
        refine ⟨(by show 1 ≤ sizeLine; decide), fun l nl => ?_⟩
        refine q l _ nl (fun b u y => (upd_ne (ne_of_none y nl)).trans y) ?_
        rw [upd_same]
        show _ = some (HO.lst [V.str (lineW (sideWs n o s m pl))])
        unfold sideWs
        rw [if_pos o0, List.append_nil]
        congr 3
      · refine .inr ⟨true, by rw [decide_eq_false fun h => o0 (V.int.inj h)]; rfl, ?_⟩
        walk_at "rd"
        refine ⟨⟨by decide, fun _ h => by simp at h, fun _ h => by simp at h⟩, ?_⟩
        walk_at "rd"
        have mz : Txt.mul (Str.ofString " at " ++ Str.ofString (toString o)) (if true = true then 1 else 0) = Str.ofString " at " ++ Str.ofString (toString o) := rfl
        rw [mz]
        refine ⟨(by simp only [Str.length_append, c1, c2, c3, c4, c5, c6]; omega), ?_⟩
        walk_at "rd"
        refine ⟨(by show 1 ≤ sizeLine; decide), fun l nl => ?_⟩
        refine q l _ nl (fun b u y => (upd_ne (ne_of_none y nl)).trans y) ?_
        rw [upd_same]
        show _ = some (HO.lst [V.str (lineW (sideWs n o s m pl))])
        unfold sideWs
        rw [if_neg o0, ← at_text, Str.empty_append, Str.append_assoc]
    | set n ns =>
      obtain ⟨qa, hp, hq⟩ := id ea
      have l1 := (name_facts ok.1).2.1
      refine ⟨p, _, _, _, rfl, rfl, SqT.of hp, at0, ?_⟩
      walk_at "rd"
      refine ⟨rfl, _, rfl, ?_⟩
      refine ite2 (fun z => absurd z (by decide +kernel)) (fun _ => ?_)
      walk_at "rd"
      refine ⟨p, _, _, _, rfl, rfl, SqT.of hp, at0, ?_⟩
      walk_at "rd"
      refine ⟨rfl, _, rfl, ?_⟩
      refine ite2 (fun _ => ?_) (fun z => absurd (decide_eq_true rfl) z)
      walk_at "rd"
      refine ⟨p, _, _, _, rfl, rfl, SqT.of hp, at_nat (k := 1) rfl, ?_⟩
      walk_at "rd"
      refine ⟨(by simp only [Str.length_append, c1, c2, c3, c4, c5, c6]; omega), ?_⟩
      walk_at "rd"
      refine ⟨(by simp only [Str.length_append, c1, c2, c3, c4, c5, c6]; omega), ?_⟩
      walk_at "rd"
      refine ⟨rfl, ?_⟩
      walk_at "rd"
      refine ⟨p, _, _, _, rfl, rfl, SqT.of hp, at_nat (k := 2) rfl, ?_⟩
      walk_at "rd"
      have n1 := ok.2.2.1
      have n4 := ok.2.2.2.1
      have pn : LineP ns := ⟨fun e => by rw [e] at n1; exact absurd n1 (by decide), by omega, fun y hy => name_word (ok.2.2.2.2 y hy).1⟩
      have ll := line_len pn
      refine ⟨qa, _, rfl, .inr (SqT.of hq), fun lp nlp => ?_⟩
      generalize e1 : upd H lp _ = H1
      have g1 : H1 lp = some (.lst (ns.map V.str)) := by rw [← e1]; exact upd_same
      have s1 : Same H H1 := by rw [← e1]; exact fun b u y => (upd_ne (ne_of_none y nlp)).trans y
      clear e1
      refine ⟨_, lp, ns, rfl, rfl, .inl (SqL.of g1), ?_, ?_⟩
      · have b := StrLaws.sumLen_le (B := 1500) ns (fun y hy => (name_word (ok.2.2.2.2 y hy).1).le)
        rw [c2]
        have : ns.length * 1500 ≤ 4 * 1500 := Nat.mul_le_mul_right _ n4
        omega
      walk_at "rd"
      refine ⟨?_, ?_⟩
      · rw [show Txt.join (Str.ofString " ") ns = lineW ns from rfl]
        simp only [Str.length_append, c1, c2, c3, c4, c5, c6]
        omega
      walk_at "rd"
      refine ⟨(by show 1 ≤ sizeLine; decide), fun l nl => ?_⟩
      refine q l _ (s1.free nl) (s1.trans fun b u y => (upd_ne (ne_of_none y nl)).trans y) ?_
      rw [upd_same]
      show _ = some (HO.lst [V.str (lineW (("set" : Str) :: n :: ns))])
      have te : Str.ofString "set " ++ n ++ Str.ofString " " ++ Txt.join (Str.ofString " ") ns = lineW (("set" : Str) :: n :: ns) := by
        apply ext_tl
        obtain ⟨x, xs, rfl⟩ : ∃ x xs, ns = x :: xs := by
          cases ns with
          | nil => exact absurd n1 (by decide)
          | cons x xs => exact ⟨x, xs, rfl⟩
        have k1 : tl (Str.ofString "set ") = tl (Str.ofString "set") ++ [32] := by decide +kernel
        have k2 : tl (Str.ofString " ") = [32] := by decide +kernel
        have k3 : tl (Txt.join (Str.ofString " ") (x :: xs)) = tl x ++ StrLaws.glueL [32] xs := tl_line x xs
        rw [tl_line, tl_append, tl_append, tl_append, k3]
        simp only [k1, k2, StrLaws.glueL, List.nil_append, List.append_nil, List.append_assoc]
      rw [te]
    | log n g ls =>
      obtain ⟨qa, ps, hp, hq, lp, ap⟩ := id ea
      have l1 := (name_facts ok.1).2.1
      obtain ⟨ns, n4, ng, fg, al⟩ := ok.2.2.1
      have l2 := (name_facts ng).2.1
      have l50 := ok.2.2.2.1
      have ll := ok.2.2.2.2
      have lw : ∀ li ∈ ls, WordP li.1 ∧ WordP li.2 := fun li hl => by
        obtain ⟨nn, o, s, m, pl, fig, _, g0, g1, p60, tx⟩ := ll li hl
        exact ⟨name_word nn, by rw [tx]; exact text_word g0 g1 p60⟩
      refine ⟨p, _, _, _, rfl, rfl, SqT.of hp, at0, ?_⟩
      walk_at "rd"
      refine ⟨rfl, _, rfl, ?_⟩
      refine ite2 (fun z => absurd z (by decide +kernel)) (fun _ => ?_)
      walk_at "rd"
      refine ⟨p, _, _, _, rfl, rfl, SqT.of hp, at0, ?_⟩
      walk_at "rd"
      refine ⟨rfl, _, rfl, ?_⟩
      refine ite2 (fun z => absurd z (by decide +kernel)) (fun _ => ?_)
      walk_at "rd"
      refine ⟨p, _, _, _, rfl, rfl, SqT.of hp, at_nat (k := 1) rfl, ?_⟩
      walk_at "rd"
      refine ⟨(by simp only [Str.length_append, c1, c2, c3, c4, c5, c6]; omega), ?_⟩
      walk_at "rd"
      refine ⟨(by simp only [Str.length_append, c1, c2, c3, c4, c5, c6]; omega), ?_⟩
      walk_at "rd"
      refine ⟨p, _, _, _, rfl, rfl, SqT.of hp, at_nat (k := 2) rfl, ?_⟩
      walk_at "rd"
      refine ⟨(by simp only [Str.length_append, c1, c2, c3, c4, c5, c6]; omega), ?_⟩
      have le : Str.ofString "log " ++ n ++ Str.ofString " " ++ g = lineW [("log" : Str), n, g] := by
        rw [← log_text, Str.empty_append]
      rw [le]
      walk_at "rd"
      refine ⟨(by show 1 ≤ sizeLine; decide), fun p1 np1 => ?_⟩
      generalize e1 : upd H p1 _ = H1
      have g1 : H1 p1 = some (.lst [.str (lineW [("log" : Str), n, g])]) := by rw [← e1]; exact upd_same
      have s1 : Same H H1 := by rw [← e1]; exact fun b u z => (upd_ne (ne_of_none z np1)).trans z
      clear e1
      have hp1 := s1 _ _ hp
      have hq1 := s1 _ _ hq
      walk_at "rd"
      refine ⟨p, _, _, _, rfl, rfl, SqT.of hp1, at_nat (k := 3) rfl, ?_⟩
      walk_at "rd"
      refine ⟨⟨_, SqT.of hq1⟩, fun D nD => ?_⟩
      refine lc_it (walk_tup (K := K) (a := qa) (xs := ps.map V.ref)) (fun j H3 => H3 D = some (.lst ((ls.take j).map fun l => V.str (lineW [l.1, l.2]))) ∧ Same H1 H3) ⟨upd_same, fun b u z => (upd_ne (ne_of_none z nD)).trans z⟩ (fun _ _ _ ⟨_, s3⟩ => SqT.of (s3 _ _ hq1)) ?_ ?_
      · rintro j y H3 H4 hj ⟨hD, s3⟩ ⟨rfl, ey⟩
        rw [List.getElem?_map] at ey
        obtain ⟨x, ex, rfl⟩ := Option.map_eq_some_iff.mp ey
        rw [List.length_map] at hj
        obtain ⟨li, el⟩ : ∃ li, ls[j]? = some li := ⟨_, List.getElem?_eq_getElem (by omega)⟩
        have hx := s3 _ _ (s1 _ _ (ap j x li ex el))
        obtain ⟨w1, w2⟩ := lw li (List.mem_of_getElem? el)
        have b1 := w1.le
        have b2 := w2.le
        refine ⟨x, _, rfl, SqT.of hx, rfl, _, _, rfl, _, _, rfl, rfl, ?_⟩
        refine ⟨rfl, ?_⟩
        walk_at "rd"
        refine ⟨(by simp only [Str.length_append, c1, c2, c5]; omega), ?_⟩
        walk_at "rd"
        refine ⟨(by simp only [Str.length_append, c1, c2, c5]; omega), ?_⟩
        have pe : li.1 ++ Str.ofString " " ++ li.2 = lineW [li.1, li.2] := by
          rw [← pair_text, Str.empty_append]
        rw [pe]
        refine ⟨_, hD, ?_, ?_, fun b u z => (upd_ne (ne_of_none z nD)).trans (s3 _ _ z)⟩
        · rw [List.length_map, List.length_take]
          exact Nat.lt_of_le_of_lt (by omega : _ ≤ 51) (by decide)
        · rw [List.take_succ, el, List.map_append]
          exact upd_same
      rintro H3 ⟨hD, s3⟩
      rw [List.length_map, lp, List.take_length] at hD
      walk_at "rd"
      have g3 := s3 _ _ g1
      refine ⟨p1, D, _, _, rfl, rfl, g3, hD, ?_, fun p2 np2 => ?_⟩
      · rw [List.length_map]
        show 1 + ls.length ≤ sizeLine
        omega
      generalize e2 : upd H3 p2 _ = H4
      have g4 : H4 p2 = some (.lst ([V.str (lineW [("log" : Str), n, g])] ++ ls.map fun l => V.str (lineW [l.1, l.2]))) := by rw [← e2]; exact upd_same
      have s4 : Same H3 H4 := by rw [← e2]; exact fun b u z => (upd_ne (ne_of_none z np2)).trans z
      clear e2
      walk_at "rd"
      refine ⟨(by show 1 ≤ sizeLine; decide), fun p3 np3 => ?_⟩
      generalize e3 : upd H4 p3 _ = H5
      have g5 : H5 p3 = some (.lst [V.str "end"]) := by rw [← e3]; exact upd_same
      have s5 : Same H4 H5 := by rw [← e3]; exact fun b u z => (upd_ne (ne_of_none z np3)).trans z
      clear e3
      refine ⟨p2, p3, _, _, rfl, rfl, s5 _ _ g4, g5, ?_, fun p4 np4 => ?_⟩
      · rw [List.length_append, List.length_map]
        show 1 + ls.length + 1 ≤ sizeLine
        omega
      have all := s1.trans (s3.trans (s4.trans s5))
      refine q p4 _ (all.free np4) (all.trans fun b u z => (upd_ne (ne_of_none z np4)).trans z) ?_
      rw [upd_same]
      show some (HO.lst _) = some (HO.lst _)
      congr 2
      show _ = ((lineW [("log" : Str), n, g] :: ((ls.map fun l => [l.1, l.2]) ++ [[("end" : Str)]]).map lineW)).map V.str
      rw [List.map_append, List.map_cons, List.map_append, List.map_map, List.map_map]
      rfl
end
end HT
namespace HT
open PySem L2 TL PySem.NumText
theorem tl_mul1 {z : Str} {c : Nat} (h : tl z = [c]) (n : Int) : tl (Txt.mul z n) = List.replicate n.toNat c := by
  have e : z = ⟨#[c]⟩ := ext_tl h
  rw [e]
  exact PyProof.Rows.mul_one_list c n
theorem mul1_ok {z : Str} {c : Nat} (h : tl z = [c]) {n : Int} (n0 : -1000 ≤ n) (n1 : n ≤ 1000) : PySem.MulOk z n := by
  have l : z.length = 1 := by rw [len_tl, h]; rfl
  refine ⟨?_, fun g _ => ?_, fun g _ => ?_⟩
  · rw [decide_eq_false (by omega), decide_eq_false (by omega)]
    rfl
  · rw [l]
    have : (2 : Int) ≤ (2 ^ 63 - 1) / n := Int.le_ediv_of_mul_le (by omega) (by omega)
    omega
  · rw [l, Nat.one_mul]
    exact decide_eq_false (by show ¬ n.toNat > 16777216; omega)
theorem lg62 {i : Int} (h : i.natAbs ≤ 10 ^ 62) : i.natAbs.log2 < 1920 := by
  by_cases e : i.natAbs = 0
  · rw [e]; decide
  · have := (Nat.log2_lt e).mpr (show i.natAbs < 2 ^ 210 from Nat.lt_of_le_of_lt h (by decide))
    omega
/-- the digits, with noughts ahead of them -/
theorem pad_digits (fig : Int) (pl : Nat) {x : Str} (hx : x = Str.ofString (toString (if fig < 0 then -fig else fig))) {k : Int} (hk : k.toNat = pl + 1 - x.length) : Txt.mul (Str.ofString "0") k ++ x = digM fig pl := by
  apply ext_tl
  have e : tl x = numL (absN fig) := by rw [hx, absN_eq]; exact tl_num (absN fig)
  rw [tl_append, tl_mul1 (z := Str.ofString "0") tl_zero, dig_list, e, hk, len_tl, e]
theorem text_due (fig : Int) {pl : Nat} (hp : pl ≤ 60) (h0 : -10 ^ 62 < fig) (h1 : fig < 10 ^ 62) {k m : Int} (hk : k = if 0 < pl then 1 else 0) (hm : m = if fig < 0 then 1 else 0) :
    Txt.mul (Str.ofString "-") m ++ (cutS (digM fig pl) none (some (((digM fig pl).length : Int) - (pl : Int))) ++ Txt.mul (Str.ofString ".") k ++ cutS (digM fig pl) (some (((digM fig pl).length : Int) - (pl : Int))) none) = textM fig pl false false 0 := by
  obtain ⟨d1, d2⟩ := dig_ok h0 h1 hp
  have et : textM fig pl false false 0 = Txt.rjust (markM fig false ++ (if 0 < pl then (cutS (digM fig pl) none (some (((digM fig pl).length : Int) - (pl : Int)))) ++ ("." : Str) ++ cutS (digM fig pl) (some (((digM fig pl).length : Int) - (pl : Int))) none else cutS (digM fig pl) none (some (((digM fig pl).length : Int) - (pl : Int))))) 0 := rfl
  rw [et]
  generalize digM fig pl = d at *
  apply ext_tl
  rw [tl_rjust _ (Int.le_refl 0)]
  show _ = List.replicate (0 - _) 32 ++ _
  rw [Nat.zero_sub, List.replicate_zero, List.nil_append, tl_append, tl_append, tl_append, tl_append, tl_mul1 (z := Str.ofString "-") tl_minus, tl_mul1 (z := Str.ofString ".") tl_dot, tl_mark]
  obtain ⟨q, hq⟩ : ∃ q : Nat, q = d.length - pl := ⟨_, rfl⟩
  have eq : (d.length : Int) - (pl : Int) = (q : Int) := by omega
  have dn : d.length = (tl d).length := len_tl d
  rw [eq]
  have t2 : tl (cutS d (some (q : Int)) none) = (tl d).drop q := tl_post d rfl (by omega)
  have em : List.replicate m.toNat 45 = (if fig < 0 then [45] else if 0 < fig ∧ false = true then [43] else []) := by
    rw [hm]
    by_cases g : fig < 0
    · rw [if_pos g, if_pos g]; rfl
    · rw [if_neg g, if_neg g, if_neg (by simp)]; rfl
  rw [em]
  congr 1
  by_cases g : 0 < pl
  · rw [hk, if_pos g, if_pos g, tl_append, tl_append, tl_dot]
    rfl
  · rw [hk, if_neg g, if_neg g, t2, List.drop_eq_nil_of_le (by omega)]
    show _ ++ [] ++ [] = _
    rw [List.append_nil, List.append_nil]
theorem cut_len (d : Str) (a b : Option Int) : (cutS d a b).length ≤ d.length := by
  rw [len_tl, len_tl d]
  show (((tl d).drop _).take _).length ≤ _
  rw [List.length_take, List.length_drop]
  omega
def spLText : Sp := fun vs H Q _ => ∃ (fig : Int) (pl : Nat), vs = [.int fig, .int (pl : Int)] ∧ -10 ^ 62 < fig ∧ fig < 10 ^ 62 ∧ pl ≤ 60 ∧ Q (.str (textM fig pl false false 0)) H
section
variable {P : Program} {w : World} {K : PySem.W.Frag} {mg : Str → Option Value} {base : Heap} {aN : Addr}
theorem ok_L_text {f : Addr} {fd : FuncData} (F : Fun K "_law_text" "_law_text" s_L_text f fd) (T : EnT K mg aN) (B : Blt mg) (MT : MaxT mg) : FnOk P w K mg base CX0 1 f fd ["_law_figure", "_law_places"] spLText := by
  refine F.ok sc_L_text (fun vs H Q E h => ?_) (fun cdv A outer s0 H vs Q E hr h => ?_)
  · obtain ⟨fig, pl, rfl, _⟩ := h
    rfl
  · obtain ⟨fig, pl, rfl, h0, h1, hp, q⟩ := h
    have nd := sc_L_text.nd
    refine ⟨_, (pss_cons (ps_set (i := 2) nd rfl (Or.inl rfl) (pe_callTy call_str_int (by rfl) T.str (by decide +kernel) (pa_cons (pe_callB call_abs (by rfl) B.abs (by decide +kernel) (pa_cons (pv 0) pa_nil)) pa_nil)))
      (pss_cons (ps_set (i := 2) nd rfl (Or.inl rfl) (pe_op op_add_str (pe_op op_mulS pe_str (pe_callB (call_max2 rfl) (by rfl) MT.max (by decide +kernel) (pa_cons pe_int (pa_cons (pe_op op_sub (pe_op op_add (pv 1) pe_int) (pe_callB call_len_str (by rfl) T.len PySem.boot_len (pa_cons (pv 2) pa_nil))) pa_nil)))) (pv 2)))
      (pss_cons (ps_set (i := 3) nd rfl (Or.inl rfl) (pe_op op_sub (pe_callB call_len_str (by rfl) T.len PySem.boot_len (pa_cons (pv 2) pa_nil)) (pv 1)))
      (pss_cons (ps_set (i := 4) nd rfl (Or.inl rfl) (pe_op op_add_str (pe_op op_add_str (pe_slice sl_str (pv 2) po_none (po_some (pv 3))) (pe_op op_mulS pe_str (pe_callTy call_int1 (by rfl) B.int (by decide +kernel) (pa_cons (pe_cmpR op_gt (pv 1) pe_int (nomark _)) pa_nil)))) (pe_slice sl_str (pv 2) (po_some (pv 3)) po_none)))
      (pss_one (ps_ret (pe_op op_add_str (pe_op op_mulS pe_str (pe_callTy call_int1 (by rfl) B.int (by decide +kernel) (pa_cons (pe_cmpR op_lt (pv 0) pe_int (nomark _)) pa_nil))) (pv 4)))))))), ?_⟩
    walk_at "rd"
    refine ⟨lg62 (by split <;> omega), ?_⟩
    walk_at "rd"
    obtain ⟨d1, d2⟩ := dig_ok h0 h1 hp
    obtain ⟨x, hx⟩ : ∃ x, x = Str.ofString (toString (if fig < 0 then -fig else fig)) := ⟨_, rfl⟩
    have xl : x.length ≤ 100 := by
      have b := PyProof.Rows.toString_length_le (v := if fig < 0 then -fig else fig) (by split <;> omega) (k := 62) (by decide) (by split <;> omega)
      rw [hx]
      exact Nat.le_trans b (by decide)
    have z : sizeLine = 16777216 := by decide +kernel
    have pd := pad_digits fig pl hx (k := if (pl : Int) + 1 - (x.length : Int) > 0 then (pl : Int) + 1 - (x.length : Int) else 0) (by split <;> omega)
    rw [← hx]
    refine ⟨(by omega), ?_⟩
    walk_at "rd"
    refine ⟨_, _, rfl, ?_⟩
    walk_at "rd"
    refine ⟨mul1_ok tl_zero (by split <;> omega) (by split <;> omega), ?_⟩
    walk_at "rd"
    refine ⟨?_, ?_⟩
    · rw [← Str.length_append, pd]
      omega
    rw [pd]
    generalize hd : digM fig pl = d at *
    walk_at "rd"
    refine ⟨by omega, ?_⟩
    walk_at "rd"
    refine ⟨by omega, ?_⟩
    walk_at "rd"
    refine .inr ⟨_, rfl, ?_⟩
    walk_at "rd"
    refine ⟨mul1_ok tl_dot (by split <;> omega) (by split <;> omega), ?_⟩
    walk_at "rd"
    have cl := cut_len d
    have ml : ∀ (y : Str) (c : Nat) (n : Int), tl y = [c] → n ≤ 1 → (Txt.mul y n).length ≤ 1 := fun y c n h g => by
      rw [len_tl, tl_mul1 h, List.length_replicate]
      omega
    have a1 := cl none (some ((d.length : Int) - (pl : Int)))
    have a2 := cl (some ((d.length : Int) - (pl : Int))) none
    have a3 := ml (Str.ofString ".") 46 (if decide ((0 : Int) < (pl : Int)) = true then 1 else 0) tl_dot (by split <;> omega)
    have a4 := ml (Str.ofString "-") 45 (if decide (fig < 0) = true then 1 else 0) tl_minus (by split <;> omega)
    have td := text_due fig hp h0 h1 (k := if decide ((0 : Int) < (pl : Int)) = true then 1 else 0) (m := if decide (fig < 0) = true then 1 else 0) (by by_cases g : 0 < pl <;> simp [g]) (by by_cases g : fig < 0 <;> simp [g])
    rw [hd] at td
    refine ⟨by omega, ?_⟩
    walk_at "rd"
    refine ⟨by omega, ?_⟩
    walk_at "rd"
    refine ⟨by simp only [Str.length_append]; omega, ?_⟩
    walk_at "rd"
    refine .inr ⟨_, rfl, ?_⟩
    walk_at "rd"
    refine ⟨mul1_ok tl_minus (by split <;> omega) (by split <;> omega), ?_⟩
    walk_at "rd"
    refine ⟨by simp only [Str.length_append]; omega, ?_⟩
    rw [td]
    exact q
end
end HT
namespace HT
open PySem L2 TL
/-! ### entries as data -/
def lineD (l : Str × Str) : PyData := .tuple [.str l.1, .str l.2]
def entD : Ent → PyData
  | .side n o s m pl => .tuple [.str "side", .str n, .tuple [.int o, .int s, .str m], .int (pl : Int)]
  | .set n ns => .tuple [.str "set", .str n, .tuple (ns.map PyData.str)]
  | .log n g ls => .tuple [.str "log", .str n, .str g, .tuple (ls.map lineD)]
def papD (es : List Ent) : PyData := .list (es.map entD)
theorem dp_lines {K : PySem.W.Frag} {H : Hp} : ∀ (ps : List Addr) (ls : List (Str × Str)), ps.length = ls.length → (∀ (i : Nat) (a : Addr) (l : Str × Str), ps[i]? = some a → ls[i]? = some l → H a = some (.tup [.str l.1, .str l.2])) → DpAll K H (ps.map V.ref) (ls.map lineD)
  | [], [], _, _ => .nil
  | [], _ :: _, h, _ => by simp at h
  | _ :: _, [], h, _ => by simp at h
  | p :: ps, l :: ls, h, at_ => .cons (.tup (SqT.of (at_ 0 p l rfl rfl)) (.cons (.str _) (.cons (.str _) .nil))) (dp_lines ps ls (by simpa using h) fun i a l x y => at_ (i + 1) a l x y)
theorem dp_ent {K : PySem.W.Frag} {H : Hp} {p : Addr} {e : Ent} (h : EntAt H p e) : Dp K H (.ref p) (entD e) := by
  cases e with
  | side n o s m pl =>
    obtain ⟨q, a, b⟩ := h
    exact .tup (SqT.of a) (.cons (.str _) (.cons (.str _) (.cons (.tup (SqT.of b) (.cons (.int _) (.cons (.int _) (.cons (.str _) .nil)))) (.cons (.int _) .nil))))
  | set n ns =>
    obtain ⟨q, a, b⟩ := h
    exact .tup (SqT.of a) (.cons (.str _) (.cons (.str _) (.cons (.tup (SqT.of b) (dp_words ns)) .nil)))
  | log n g ls =>
    obtain ⟨q, ps, a, b, c, d⟩ := h
    exact .tup (SqT.of a) (.cons (.str _) (.cons (.str _) (.cons (.str _) (.cons (.tup (SqT.of b) (dp_lines ps ls c d)) .nil))))
theorem dp_ents {K : PySem.W.Frag} {H : Hp} : ∀ (ps : List Addr) (es : List Ent), ps.length = es.length → (∀ (i : Nat) (p : Addr) (e : Ent), ps[i]? = some p → es[i]? = some e → EntAt H p e) → DpAll K H (ps.map V.ref) (es.map entD)
  | [], [], _, _ => .nil
  | [], _ :: _, h, _ => by simp at h
  | _ :: _, [], h, _ => by simp at h
  | p :: ps, e :: es, h, at_ => .cons (dp_ent (at_ 0 p e rfl rfl)) (dp_ents ps es (by simpa using h) fun i a l x y => at_ (i + 1) a l x y)
theorem dp_pap {K : PySem.W.Frag} {H : Hp} {l : Addr} {es : List Ent} (h : EntsAt H l es) : Dp K H (.ref l) (papD es) := by
  obtain ⟨ps, a, b, c⟩ := h
  exact .lst (SqL.of b) (dp_ents ps es a c)
theorem lay_list {A : Type} (f : A → PyData) (k : Nat) : ∀ xs : List A, (∀ x ∈ xs, PyData.canLay0 (f x) = true ∧ PyData.depth (f x) ≤ k) → PyData.canLayAll0 (xs.map f) = true ∧ PyData.depthAll (xs.map f) ≤ k
  | [], _ => ⟨rfl, Nat.zero_le _⟩
  | x :: xs, h => by
    have a := lay_list f k xs fun y hy => h y (List.mem_cons_of_mem _ hy)
    have b := h x List.mem_cons_self
    refine ⟨?_, ?_⟩
    · show (PyData.canLay0 (f x) && PyData.canLayAll0 (xs.map f)) = true
      rw [b.1, a.1]
      rfl
    · show max (PyData.depth (f x)) (PyData.depthAll (xs.map f)) ≤ k
      exact Nat.max_le.mpr ⟨b.2, a.2⟩
theorem lay_words {ws : List Str} (h : ∀ z ∈ ws, WordP z) : PyData.canLay0 (.tuple (ws.map PyData.str)) = true ∧ PyData.depth (.tuple (ws.map PyData.str)) ≤ 2 := by
  obtain ⟨a, b⟩ := words_shaped ws h
  refine ⟨by simpa [PyData.canLay0] using a, ?_⟩
  simp only [PyData.depth]
  omega
theorem lay_ent {es : List Ent} {e : Ent} (ok : EntOk es e) : PyData.canLay0 (entD e) = true ∧ PyData.depth (entD e) ≤ 3 := by
  have kS : PyData.canLay0 (.str ("side" : Str)) = true := word_ok cw_side
  have kT : PyData.canLay0 (.str ("set" : Str)) = true := word_ok cw_set
  have kL : PyData.canLay0 (.str ("log" : Str)) = true := word_ok cw_log
  cases e with
  | side n o s m pl =>
    have a := word_ok (name_word ok.1)
    have b := word_ok (mode_word ok.2.2.1.md)
    have i (z : Int) : PyData.canLay0 (.int z) = true := rfl
    refine ⟨?_, ?_⟩
    · simp only [entD, PyData.canLay0, PyData.canLayAll0, Bool.and_true, Bool.true_and] at a b kS ⊢
      rw [a, b, kS]
      rfl
    · simp [entD, PyData.depth, PyData.depthAll]
  | set n ns =>
    have a := word_ok (name_word ok.1)
    obtain ⟨b, c⟩ := lay_words (ws := ns) fun y hy => name_word (ok.2.2.2.2 y hy).1
    refine ⟨?_, ?_⟩
    · simp only [entD, PyData.canLay0, PyData.canLayAll0, Bool.and_true] at a b kT ⊢
      rw [a, b, kT]
      rfl
    · simp only [PyData.depth] at c
      simp only [entD, PyData.depth, PyData.depthAll]
      omega
  | log n g ls =>
    have a := word_ok (name_word ok.1)
    obtain ⟨ns, _, ng, _, _⟩ := ok.2.2.1
    have b := word_ok (name_word ng)
    obtain ⟨c, d⟩ := lay_list lineD 1 ls fun l hl => by
      obtain ⟨nn, o, s, m, pl, fig, _, g0, g1, p60, tx⟩ := ok.2.2.2.2 l hl
      have w1 := word_ok (name_word nn)
      have w2 : PyData.canLay0 (.str l.2) = true := word_ok (by rw [tx]; exact text_word g0 g1 p60)
      refine ⟨?_, by simp [lineD, PyData.depth, PyData.depthAll]⟩
      simp only [lineD, PyData.canLay0, PyData.canLayAll0, Bool.and_true] at w1 w2 ⊢
      rw [w1, w2]
      rfl
    refine ⟨?_, ?_⟩
    · simp only [entD, PyData.canLay0, PyData.canLayAll0, Bool.and_true] at a b c kL ⊢
      rw [a, b, c, kL]
      rfl
    · simp only [entD, PyData.depth, PyData.depthAll]
      omega
theorem pap_shaped {es : List Ent} (ok : AllOk es) : SeqAt.shaped (papD es) = true := by
  obtain ⟨a, b⟩ := lay_list entD 3 es fun e he => by
    obtain ⟨i, hi⟩ := List.getElem?_of_mem he
    exact lay_ent (ok i e hi)
  show (PyData.canLay0 (.list (es.map entD)) && decide (PyData.depth (.list (es.map entD)) ≤ 64)) = true
  rw [Bool.and_eq_true]
  refine ⟨by simpa [PyData.canLay0] using a, decide_eq_true ?_⟩
  simp only [PyData.depth]
  omega
theorem pap_eqv {es : List Ent} (ok : AllOk es) : PyData.eqv (papD es) (papD es) = true := SeqAt.eqv_refl _ (SeqAt.canLay_of_shaped (pap_shaped ok))
end HT
namespace HT
open PySem L2 TL
/-! ### what the law draws -/
def TupK (H H' : Hp) : Prop := ∀ b xs, H b = some (.tup xs) → H' b = some (.tup xs)
theorem EntAt.tk {H H' : Hp} {p : Addr} {e : Ent} (h : EntAt H p e) (k : TupK H H') : EntAt H' p e := by
  cases e with
  | side n o s m pl => obtain ⟨q, a, b⟩ := h; exact ⟨q, k _ _ a, k _ _ b⟩
  | set n ns => obtain ⟨q, a, b⟩ := h; exact ⟨q, k _ _ a, k _ _ b⟩
  | log n g ls => obtain ⟨q, ps, a, b, c, d⟩ := h; exact ⟨q, ps, k _ _ a, k _ _ b, c, fun i x l e f => k _ _ (d i x l e f)⟩
theorem TupK.oth {H H' : Hp} {a c : Addr} {t : Nat} (S : Src H a c t) (O : Oth a c H H') : TupK H H' := fun b xs h => let ⟨x, y⟩ := S.nt h; O _ _ h x y
theorem TupK.lst {H : Hp} {l : Addr} {xs : List V} {o : HO} (h : H l = some (.lst xs)) : TupK H (upd H l o) := fun b ys z => (upd_ne (ne_of z h (by intro w; cases w))).trans z
theorem find_add {es : List Ent} {e r : Ent} {x : Str} (h : findE es x = some r) : findE (es ++ [e]) x = some r := by
  unfold findE at *
  rw [List.find?_append, h]
  rfl
theorem find_add_none {es : List Ent} {e : Ent} {x : Str} (h : findE es x = none) (n : e.name ≠ x) : findE (es ++ [e]) x = none := by
  unfold findE at *
  rw [List.find?_append, h, List.find?_cons, decide_eq_false n]
  rfl
theorem find_new {es : List Ent} {e : Ent} (h : findE es e.name = none) : findE (es ++ [e]) e.name = some e := by
  unfold findE at *
  rw [List.find?_append, h, List.find?_cons, decide_eq_true rfl]
  rfl
theorem allok_add {es : List Ent} {e : Ent} (ok : AllOk es) (h : EntOk es e) : AllOk (es ++ [e]) := by
  intro i x hx
  by_cases g : i < es.length
  · rw [List.getElem?_append_left g] at hx
    rw [List.take_append_of_le_length (by omega)]
    exact ok i x hx
  · have il : i < (es ++ [e]).length := (List.getElem?_eq_some_iff.mp hx).1
    rw [List.length_append, List.length_singleton] at il
    obtain rfl : i = es.length := by omega
    rw [List.getElem?_append_right (by omega), Nat.sub_self] at hx
    injection hx with hx
    subst hx
    rw [List.take_left]
    exact h
/-- a side's entry, found by its name -/
def SdN (H : Hp) (es : List Ent) (p : Addr) (x : Str) : Prop := ∃ o s m pl, NameP x ∧ EntAt H p (.side x o s m pl) ∧ findE es x = some (.side x o s m pl) ∧ SideP o s m ∧ pl ≤ 60
theorem SdN.tk {H H' : Hp} {es : List Ent} {p : Addr} {x : Str} (h : SdN H es p x) (k : TupK H H') : SdN H' es p x := let ⟨o, s, m, pl, a, b, c⟩ := h; ⟨o, s, m, pl, a, b.tk k, c⟩
theorem SdN.add {H : Hp} {es : List Ent} {p : Addr} {x : Str} (h : SdN H es p x) (e : Ent) : SdN H (es ++ [e]) p x := let ⟨o, s, m, pl, a, b, c, d⟩ := h; ⟨o, s, m, pl, a, b, find_add c, d⟩
structure LE (H0 H : Hp) (a c N F S : Addr) (t u : Nat) (nm : List Str) (es : List Ent) (ps sd : List Addr) : Prop where
  src : Src H a c t
  oth : Oth a c H0 H
  hN : H N = some (.lst (nm.map V.str))
  hF : H F = some (.lst (ps.map V.ref))
  hS : H S = some (.lst (sd.map V.ref))
  nNF : N ≠ F
  nNS : N ≠ S
  nFS : F ≠ S
  fF : H0 F = none
  fS : H0 S = none
  aN : N ≠ a ∧ N ≠ c
  aF : F ≠ a ∧ F ≠ c
  aS : S ≠ a ∧ S ≠ c
  len : ps.length = es.length
  at_ : ∀ (i : Nat) (p : Addr) (e : Ent), ps[i]? = some p → es[i]? = some e → EntAt H p e
  ok : AllOk es
  fr : ∀ (j : Nat) (x : Str), u ≤ j → nm[j]? = some x → findE es x = none
  sdn : ∀ p ∈ sd, ∃ x, SdN H es p x
section
variable {H0 H : Hp} {a c N F S : Addr} {t u : Nat} {nm : List Str} {es : List Ent} {ps sd : List Addr}
theorem LE.go {H1 : Hp} {t1 : Nat} (L : LE H0 H a c N F S t u nm es ps sd) (O : Oth a c H H1) (S1 : Src H1 a c t1) : LE H0 H1 a c N F S t1 u nm es ps sd :=
  have k := TupK.oth L.src O
  ⟨S1, L.oth.trans O, O _ _ L.hN L.aN.1 L.aN.2, O _ _ L.hF L.aF.1 L.aF.2, O _ _ L.hS L.aS.1 L.aS.2, L.nNF, L.nNS, L.nFS, L.fF, L.fS, L.aN, L.aF, L.aS, L.len, fun i p e x y => (L.at_ i p e x y).tk k, L.ok, L.fr, fun p hp => let ⟨x, h⟩ := L.sdn p hp; ⟨x, h.tk k⟩⟩
theorem LE.same {H1 : Hp} (L : LE H0 H a c N F S t u nm es ps sd) (s : Same H H1) : LE H0 H1 a c N F S t u nm es ps sd := L.go (fun b o h _ _ => s _ _ h) (L.src.of_same s)
theorem Src.updl {x : Addr} {o : HO} (S1 : Src H a c t) (n : x ≠ a ∧ x ≠ c) : Src (upd H x o) a c t := by
  obtain ⟨ne, ob, cs, hc, l⟩ := S1
  exact ⟨ne, (upd_ne (Ne.symm n.1)).trans ob, cs, (upd_ne (Ne.symm n.2)).trans hc, l⟩
theorem LE.addF {p : Addr} {e : Ent} {i u' : Nat} (L : LE H0 H a c N F S t u nm es ps sd) (ea : EntAt H p e) (ok : EntOk es e) (ex : nm[i]? = some e.name) (nd : nm.Nodup) (h1 : u ≤ u') (h2 : i < u') :
    LE H0 (upd H F (.lst ((ps ++ [p]).map V.ref))) a c N F S t u' nm (es ++ [e]) (ps ++ [p]) sd := by
  have k : TupK H (upd H F (.lst ((ps ++ [p]).map V.ref))) := TupK.lst L.hF
  refine ⟨L.src.updl L.aF, fun b o h m1 m2 => (upd_ne (fun z => by rw [z, L.fF] at h; cases h)).trans (L.oth b o h m1 m2), (upd_ne L.nNF).trans L.hN, upd_same, (upd_ne L.nFS.symm).trans L.hS, L.nNF, L.nNS, L.nFS, L.fF, L.fS, L.aN, L.aF, L.aS, by rw [List.length_append, List.length_append, L.len]; rfl, ?_, allok_add L.ok ok, ?_, fun q hq => let ⟨x, h⟩ := L.sdn q hq; ⟨x, (h.tk k).add e⟩⟩
  · intro j q x hq hx
    by_cases g : j < ps.length
    · rw [List.getElem?_append_left g] at hq
      rw [List.getElem?_append_left (by have := L.len; omega)] at hx
      exact (L.at_ j q x hq hx).tk k
    · have jl : j < (ps ++ [p]).length := (List.getElem?_eq_some_iff.mp hq).1
      rw [List.length_append, List.length_singleton] at jl
      obtain rfl : j = ps.length := by omega
      rw [List.getElem?_append_right (by omega), Nat.sub_self] at hq
      rw [List.getElem?_append_right (by have := L.len; omega), L.len, Nat.sub_self] at hx
      injection hq with hq
      injection hx with hx
      subst hq
      subst hx
      exact ea.tk k
  · intro j x hj hx
    refine find_add_none (L.fr j x (by omega) hx) fun z => ?_
    rw [← z] at hx
    have il : i < nm.length := (List.getElem?_eq_some_iff.mp ex).1
    have := (List.getElem?_inj il nd).mp (ex.trans hx.symm)
    omega
theorem LE.addS {p : Addr} {x : Str} (L : LE H0 H a c N F S t u nm es ps sd) (h : SdN H es p x) : LE H0 (upd H S (.lst ((sd ++ [p]).map V.ref))) a c N F S t u nm es ps (sd ++ [p]) := by
  have k : TupK H (upd H S (.lst ((sd ++ [p]).map V.ref))) := TupK.lst L.hS
  refine ⟨L.src.updl L.aS, fun b o h m1 m2 => (upd_ne (fun z => by rw [z, L.fS] at h; cases h)).trans (L.oth b o h m1 m2), (upd_ne L.nNS).trans L.hN, (upd_ne L.nFS).trans L.hF, upd_same, L.nNF, L.nNS, L.nFS, L.fF, L.fS, L.aN, L.aF, L.aS, L.len, fun i q e y z => (L.at_ i q e y z).tk k, L.ok, L.fr, ?_⟩
  intro q hq
  rcases List.mem_append.mp hq with hq | hq
  · obtain ⟨y, hy⟩ := L.sdn q hq
    exact ⟨y, hy.tk k⟩
  · rcases List.mem_singleton.mp hq with rfl
    exact ⟨x, h.tk k⟩
end
theorem ten_turn : ∀ f : Fin 10, (tenN.drop f.val ++ tenN.take f.val).Nodup := by decide +kernel
theorem cutV_from (xs : List V) (k : Nat) (h : k ≤ xs.length) : cutV xs (some (k : Int)) none = xs.drop k := by
  unfold cutV
  rw [HT.sIx_nat, HT.sIx_none, Nat.min_eq_left h, List.take_of_length_le]
  rw [List.length_drop]
  exact Nat.le_refl _
theorem cutV_to (xs : List V) (k : Nat) (h : k ≤ xs.length) : cutV xs none (some (k : Int)) = xs.take k := by
  unfold cutV
  rw [HT.sIx_nat, HT.sIx_none, Nat.min_eq_left h]
  rfl
end HT
namespace HT
open PySem L2 TL
theorem LE.up {H0 H : Hp} {a c N F S : Addr} {t u u' : Nat} {nm : List Str} {es : List Ent} {ps sd : List Addr} (L : LE H0 H a c N F S t u nm es ps sd) (h : u ≤ u') : LE H0 H a c N F S t u' nm es ps sd := { L with fr := fun j x hj hx => L.fr j x (by omega) hx }
theorem LE.other {H0 H : Hp} {a c N F S D : Addr} {t u : Nat} {nm : List Str} {es : List Ent} {ps sd : List Addr} {xs : List V} {o : HO} (L : LE H0 H a c N F S t u nm es ps sd) (hD : H D = some (.lst xs)) (fD : H0 D = none) (nN : N ≠ D) (nF : F ≠ D) (nS : S ≠ D) (na : D ≠ a ∧ D ≠ c) : LE H0 (upd H D o) a c N F S t u nm es ps sd := by
  have k : TupK H (upd H D o) := TupK.lst hD
  exact ⟨L.src.updl na, fun b u h m1 m2 => (upd_ne (fun z => by rw [z, fD] at h; cases h)).trans (L.oth b u h m1 m2), (upd_ne nN).trans L.hN, (upd_ne nF).trans L.hF, (upd_ne nS).trans L.hS, L.nNF, L.nNS, L.nFS, L.fF, L.fS, L.aN, L.aF, L.aS, L.len, fun i q e y z => (L.at_ i q e y z).tk k, L.ok, L.fr, fun q hq => let ⟨x, h⟩ := L.sdn q hq; ⟨x, h.tk k⟩⟩
/-- what is free now was free at the beginning -/
theorem LE.free {H0 H : Hp} {a c N F S D : Addr} {t u : Nat} {nm : List Str} {es : List Ent} {ps sd : List Addr} (L : LE H0 H a c N F S t u nm es ps sd) (h : H D = none) : H0 D = none := by
  cases hh : H0 D with
  | none => rfl
  | some o =>
    obtain ⟨n1, n2⟩ := L.src.na h
    rw [L.oth _ _ hh n1 n2] at h
    cases h
theorem names_of {H : Hp} {es : List Ent} : ∀ qs : List Addr, (∀ q ∈ qs, ∃ x, SdN H es q x) → ∃ ns : List Str, ns.length = qs.length ∧ ∀ (i : Nat) (q : Addr) (x : Str), qs[i]? = some q → ns[i]? = some x → SdN H es q x
  | [], _ => ⟨[], rfl, fun i q x h => by simp at h⟩
  | q :: qs, h => by
    obtain ⟨ns, l, p⟩ := names_of qs fun y hy => h y (List.mem_cons_of_mem _ hy)
    obtain ⟨x, hx⟩ := h q List.mem_cons_self
    refine ⟨x :: ns, by rw [List.length_cons, List.length_cons, l], fun i q' x' a b => ?_⟩
    cases i with
    | zero =>
      injection a with a
      injection b with b
      rw [← a, ← b]
      exact hx
    | succ i => exact p i q' x' a b
def spLEnts : Sp := fun vs H Q _ => ∃ (a c : Addr) (t : Nat), vs = [.ref a] ∧ Src H a c t ∧ t + 1000 < 2 ^ 30 ∧ ∀ (l : Addr) (H' : Hp) (es : List Ent) (t' : Nat), H l = none → t' ≤ t + 900 → Src H' a c t' → Oth a c H H' → l ≠ a → l ≠ c → EntsAt H' l es → AllOk es → 1 ≤ es.length → es.length ≤ 10 → Q (.ref l) H'
section
variable {P : Program} {w : World} {K : PySem.W.Frag} {mg : Str → Option Value} {base : Heap} {aN fD fP fG fS fT : Addr} {dD dP dG dS dT : FuncData}
theorem ok_L_entries {f : Addr} {fd : FuncData} (F : Fun K "_law_entries" "_law_entries" s_L_entries f fd) (T : EnT K mg aN) (B : Blt mg) (D : Cal P w K mg base "_law_draw" 1 ["_law_source_here", "_law_limit"] spDraw fD dD)
    (Pk : Cal P w K mg base "_law_pick" 2 ["_law_source_here", "_law_values"] spPick fP dP) (G : Cal P w K mg base "_law_great" 2 ["_law_source_here", "_law_limit"] spGreat fG dG) (Sd : Cal P w K mg base "_law_side" 4 ["_law_source_here", "_law_most"] spSide fS dS) (Tx : Cal P w K mg base "_law_text" 1 ["_law_figure", "_law_places"] spLText fT dT) : FnOk P w K mg base CX0 5 f fd ["_law_source_here"] spLEnts := by
  refine F.ok sc_L_entries (fun vs H Q E h => ?_) (fun cdv A outer s0 H vs Q E hr h => ?_)
  · obtain ⟨a, c, t, rfl, _⟩ := h
    rfl
  · obtain ⟨a, c, t, rfl, S0, ht, q⟩ := h
    have nd := sc_L_entries.nd
    refine ⟨_, (pss_cons (ps_set (i := 1) nd rfl (Or.inl rfl) (pe_lst (pa_cons pe_str (pa_cons pe_str (pa_cons pe_str (pa_cons pe_str (pa_cons pe_str (pa_cons pe_str (pa_cons pe_str (pa_cons pe_str (pa_cons pe_str (pa_cons pe_str pa_nil))))))))))))
      (pss_cons (ps_set (i := 2) nd rfl (Or.inl rfl) (pcl D hr (by decide) (by rfl) (pa_cons (pv 0) (pa_cons pe_int pa_nil))))
      (pss_cons (ps_set (i := 1) nd rfl (Or.inl rfl) (pe_op op_cat (pe_slice sl_list (pv 1) (po_some (pv 2)) po_none) (pe_slice sl_list (pv 1) po_none (po_some (pv 2)))))
      (pss_cons (ps_set (i := 3) nd rfl (Or.inl rfl) (pe_lst pa_nil))
      (pss_cons (ps_set (i := 4) nd rfl (Or.inr rfl) (pe_lst pa_nil))
      (pss_cons (ps_for PassesOwn.never rfl (pi_range1 (by rfl) B.range (pa_cons (pe_op op_add pe_int (pcl D hr (by decide) (by rfl) (pa_cons (pv 0) (pa_cons pe_int pa_nil)))) pa_nil)) (pg_name (i := 5) nd rfl (Or.inl rfl)) (pss_cons (ps_set (i := 6) nd rfl (Or.inl rfl) (pcl Sd hr (by decide) (by rfl) (pa_cons (pv 0) (pa_cons (pcl Pk hr (by decide) (by rfl) (pa_cons (pv 0) (pa_cons (pe_lst (pa_cons pe_int (pa_cons (pe_op op_pow pe_int pe_int) pa_nil))) pa_nil))) pa_nil))))
      (pss_cons (ps_set (i := 7) nd rfl (Or.inl rfl) (pcl Pk hr (by decide) (by rfl) (pa_cons (pv 0) (pa_cons (pe_lst (pa_cons pe_int (pa_cons pe_int (pa_cons pe_int (pa_cons pe_int (pa_cons pe_int (pa_cons (pcl D hr (by decide) (by rfl) (pa_cons (pv 0) (pa_cons pe_int pa_nil))) pa_nil))))))) pa_nil))))
      (pss_cons (ps_expr (pe_bm PySem.F.plainAttrs_list PySem.F.slot_list_append PySem.F.type_list_append mt_append (pv 3) (pa_cons (pe_tup (pa_cons pe_str (pa_cons (pe_ix ix_list (pv 1) (pv 5) (fun _ _ => rfl)) (pa_cons (pv 6) (pa_cons (pv 7) pa_nil))))) pa_nil)))
      (pss_one (ps_expr (pe_bm PySem.F.plainAttrs_list PySem.F.slot_list_append PySem.F.type_list_append mt_append (pv 4) (pa_cons (pe_ix ix_list (pv 3) (pe_un un_neg pe_int) (fun _ _ => rfl)) pa_nil))))))))
      (pss_cons (ps_for PassesOwn.never rfl (pi_range1 (by rfl) B.range (pa_cons (pcl D hr (by decide) (by rfl) (pa_cons (pv 0) (pa_cons pe_int pa_nil))) pa_nil)) (pg_name (i := 5) nd rfl (Or.inl rfl)) (pss_cons (ps_setLc (i := 9) (own := [("_law_turn", 8)]) (g := gName 8) (tt := tYes) rfl nd rfl rfl (sw_true rfl rfl rfl (by decide +kernel)) (pi_range1 (by rfl) B.range (pa_cons (pe_op op_add pe_int (pcl D hr (by decide) (by rfl) (pa_cons (pv 0) (pa_cons pe_int pa_nil)))) pa_nil)) (blkOk_by (N := ["_law_source_here", "_law_names", "_law_first", "_law_found", "_law_sides", "_law_k", "_law_side_here", "_law_places", "_law_turn", "_law_some", "_law_name", "_law_lines_here", "_law_figure"]) (sc := defScope s_L_entries) (by decide +kernel)) (fun _ _ _ _ _ => pg_name (i := 8) nd rfl (Or.inl rfl)) (fun _ _ _ _ _ => pts_nil) (fun _ _ _ _ _ => (pcl Pk hr (by decide) (by rfl) (pa_cons (pv 0) (pa_cons (pv 4) pa_nil)))))
      (pss_cons (ps_set (i := 10) nd rfl (Or.inl rfl) (pe_ix ix_list (pv 1) (pe_op op_add pe_int (pe_op op_mul pe_int (pv 5))) (fun _ _ => rfl)))
      (pss_cons (ps_expr (pe_bm PySem.F.plainAttrs_list PySem.F.slot_list_append PySem.F.type_list_append mt_append (pv 3) (pa_cons (pe_tup (pa_cons pe_str (pa_cons (pv 10) (pa_cons (pe_callTy call_tuple_of (by rfl) T.tuple (by decide +kernel) (pa_cons (pe_lc (own := [("_law_side_here", 6)]) (g := gName 6) (tt := tYes) rfl nd (pi_list (pv 9)) (blkOk_by (N := ["_law_source_here", "_law_names", "_law_first", "_law_found", "_law_sides", "_law_k", "_law_side_here", "_law_places", "_law_turn", "_law_some", "_law_name", "_law_lines_here", "_law_figure"]) (sc := defScope s_L_entries) (by decide +kernel)) (fun _ _ _ _ _ => pg_name (i := 6) nd rfl (Or.inl rfl)) (fun _ _ _ _ _ => pts_nil) (fun _ _ _ _ _ => (pe_ix (r := rIxT K) (by exact ix_tup) (pv 6) pe_int (fun _ _ => rfl)))) pa_nil)) pa_nil)))) pa_nil)))
      (pss_one (ps_if (pt_cmpR op_eq (pcl D hr (by decide) (by rfl) (pa_cons (pv 0) (pa_cons pe_int pa_nil))) pe_int (nomark _)) (pss_cons (ps_set (i := 11) nd rfl (Or.inl rfl) (pe_lst pa_nil))
      (pss_cons (ps_for PassesOwn.never rfl (pi_range1 (by rfl) B.range (pa_cons (pcl D hr (by decide) (by rfl) (pa_cons (pv 0) (pa_cons pe_int pa_nil))) pa_nil)) (pg_name (i := 8) nd rfl (Or.inl rfl)) (pss_cons (ps_set (i := 6) nd rfl (Or.inl rfl) (pcl Pk hr (by decide) (by rfl) (pa_cons (pv 0) (pa_cons (pv 9) pa_nil))))
      (pss_cons (ps_set (i := 12) nd rfl (Or.inl rfl) (pe_op op_sub (pcl G hr (by decide) (by rfl) (pa_cons (pv 0) (pa_cons (pcl Pk hr (by decide) (by rfl) (pa_cons (pv 0) (pa_cons (pe_lst (pa_cons pe_int (pa_cons pe_int (pa_cons (pe_op op_pow pe_int pe_int) pa_nil)))) pa_nil))) pa_nil))) (pcl D hr (by decide) (by rfl) (pa_cons (pv 0) (pa_cons pe_int pa_nil)))))
      (pss_one (ps_expr (pe_bm PySem.F.plainAttrs_list PySem.F.slot_list_append PySem.F.type_list_append mt_append (pv 11) (pa_cons (pe_tup (pa_cons (pe_ix ix_tup (pv 6) pe_int (fun _ _ => rfl)) (pa_cons (pcl Tx hr (by decide) (by rfl) (pa_cons (pv 12) (pa_cons (pe_ix ix_tup (pv 6) pe_int (fun _ _ => rfl)) pa_nil))) pa_nil))) pa_nil)))))))
      (pss_one (ps_expr (pe_bm PySem.F.plainAttrs_list PySem.F.slot_list_append PySem.F.type_list_append mt_append (pv 3) (pa_cons (pe_tup (pa_cons pe_str (pa_cons (pe_ix ix_list (pv 1) (pe_op op_add pe_int (pe_op op_mul pe_int (pv 5))) (fun _ _ => rfl)) (pa_cons (pv 10) (pa_cons (pe_callTy call_tuple_of (by rfl) T.tuple (by decide +kernel) (pa_cons (pv 11) pa_nil)) pa_nil))))) pa_nil)))))) pss_nil))))))
      (pss_one (ps_ret (pv 3)))))))))), ?_⟩
    walk_at "rd"
    refine ⟨(by show 10 ≤ sizeLine; decide), fun n0 nn0 => ?_⟩
    generalize e1 : upd H n0 _ = H1
    have g1 : H1 n0 = some (.lst (tenN.map V.str)) := by rw [← e1]; exact upd_same
    have s1 : Same H H1 := by rw [← e1]; exact fun b u z => (upd_ne (ne_of_none z nn0)).trans z
    clear e1
    have na0 := S0.na nn0
    have O1 : Oth a c H H1 := fun b u z _ _ => s1 _ _ z
    have S1 : Src H1 a c t := S0.of_same s1
    walk_at "rd"
    refine ⟨a, c, t, 10, rfl, S1, by omega, by decide, lg_small (by decide) (by decide), fun f H2 f0 f1 S2 O2 => ?_⟩
    obtain ⟨fn, rfl⟩ := Int.eq_ofNat_of_zero_le f0
    have fl : fn < 10 := by omega
    have g2 := O2 _ _ g1 na0.1 na0.2
    have tl10 : (tenN.map V.str).length = 10 := rfl
    walk_at "rd"
    refine ⟨n0, _, rfl, SqL.of g2, fun p1 np1 => ?_⟩
    rw [cutV_from _ fn (by rw [tl10]; omega)]
    generalize e3 : upd H2 p1 _ = H3
    have g3 : H3 p1 = some (.lst ((tenN.map V.str).drop fn)) := by rw [← e3]; exact upd_same
    have s3 : Same H2 H3 := by rw [← e3]; exact fun b u z => (upd_ne (ne_of_none z np1)).trans z
    clear e3
    walk_at "rd"
    refine ⟨n0, _, rfl, SqL.of (s3 _ _ g2), fun p2 np2 => ?_⟩
    rw [cutV_to _ fn (by rw [tl10]; omega)]
    generalize e4 : upd H3 p2 _ = H4
    have g4 : H4 p2 = some (.lst ((tenN.map V.str).take fn)) := by rw [← e4]; exact upd_same
    have s4 : Same H3 H4 := by rw [← e4]; exact fun b u z => (upd_ne (ne_of_none z np2)).trans z
    clear e4
    refine ⟨p1, p2, _, _, rfl, rfl, s4 _ _ g3, g4, ?_, fun N nN => ?_⟩
    · rw [List.length_drop, List.length_take, tl10]
      exact Nat.le_trans (by omega : _ ≤ 20) (by decide)
    obtain ⟨nm, hnm⟩ : ∃ nm, nm = tenN.drop fn ++ tenN.take fn := ⟨_, rfl⟩
    have em : (tenN.map V.str).drop fn ++ (tenN.map V.str).take fn = nm.map V.str := by rw [hnm, List.map_append, List.map_drop, List.map_take]
    rw [em]
    have nml : nm.length = 10 := by rw [hnm, List.length_append, List.length_drop, List.length_take]; show 10 - fn + min fn 10 = 10; omega
    have nmn : ∀ x ∈ nm, NameP x := fun x hx => by
      rw [hnm] at hx
      rcases List.mem_append.mp hx with hx | hx
      · exact List.mem_of_mem_drop hx
      · exact List.mem_of_mem_take hx
    have nmd : nm.Nodup := by rw [hnm]; exact ten_turn ⟨fn, fl⟩
    clear hnm em
    generalize e5 : upd H4 N _ = H5
    have g5 : H5 N = some (.lst (nm.map V.str)) := by rw [← e5]; exact upd_same
    have s5 : Same H4 H5 := by rw [← e5]; exact fun b u z => (upd_ne (ne_of_none z nN)).trans z
    clear e5
    walk_at "rd"
    refine ⟨(by show 0 ≤ sizeLine; decide), fun Fo nF => ?_⟩
    generalize e6 : upd H5 Fo _ = H6
    have g6 : H6 Fo = some (.lst []) := by rw [← e6]; exact upd_same
    have s6 : Same H5 H6 := by rw [← e6]; exact fun b u z => (upd_ne (ne_of_none z nF)).trans z
    clear e6
    walk_at "rd"
    refine ⟨(by show 0 ≤ sizeLine; decide), fun So nS => ?_⟩
    generalize e7 : upd H6 So _ = H7
    have g7 : H7 So = some (.lst []) := by rw [← e7]; exact upd_same
    have s7 : Same H6 H7 := by rw [← e7]; exact fun b u z => (upd_ne (ne_of_none z nS)).trans z
    clear e7
    have s25 := s3.trans (s4.trans s5)
    have s27 := s25.trans (s6.trans s7)
    have fr2 : ∀ x, H2 x = none → H x = none := fun x hx => by
      cases hh : H x with
      | none => rfl
      | some u =>
        by_cases xa : x = a
        · subst xa; rw [S2.ob] at hx; cases hx
        · by_cases xc : x = c
          · obtain ⟨cs, hcs, _⟩ := S2.cl
            subst xc; rw [hcs] at hx; cases hx
          · rw [O2 _ _ (s1 _ _ hh) xa xc] at hx; cases hx
    have S5 := S2.of_same s25
    have S6 := S5.of_same s6
    have L0 : LE H H7 a c N Fo So (t + 1) 0 nm [] [] [] := by
      refine ⟨S2.of_same s27, fun b u z m1 m2 => s27 _ _ (O2 _ _ (s1 _ _ z) m1 m2), s7 _ _ (s6 _ _ g5), s7 _ _ g6, g7, ?_, ?_, ?_, fr2 _ (s25.free nF), fr2 _ (s25.free (s6.free nS)), ?_, S5.na nF, S6.na nS, rfl, fun i p e z => by simp at z, fun i e z => by simp at z, fun j x _ _ => rfl, fun p hp => by cases hp⟩
      · exact ne_of_none g5 nF
      · exact ne_of_none (s6 _ _ g5) nS
      · exact ne_of_none g6 nS
      · exact (S2.of_same (s3.trans s4)).na nN
    clear g1 g2 g3 g4 g5 g6 g7
    walk_at "rd"
    refine ⟨a, c, t + 1, 4, rfl, L0.src, by omega, by decide, lg_small (by decide) (by decide), fun kk H8 k0 k1 S8 O8 => ?_⟩
    obtain ⟨kn, rfl⟩ := Int.eq_ofNat_of_zero_le k0
    have kl : kn < 4 := by omega
    have L8 := L0.go O8 S8
    walk_at "rd"
    refine ⟨by omega, by omega, ?_⟩
    refine for_range (fun i st H' => ∃ (x5 x6 x7 : Option V) (es : List Ent) (ps : List Addr) (t' : Nat), st = [some (.ref a), some (.ref N), some (.int (fn : Int)), some (.ref Fo), some (.ref So), x5, x6, x7, none, none, none, none, none] ∧ LE H H' a c N Fo So t' i nm es ps ps ∧ t' ≤ t + 2 + 50 * i ∧ es.length = i)
      ⟨none, none, none, [], [], t + 1 + 1, rfl, L8, by omega, rfl⟩ ?_ ?_
    · rintro i st Ha hi ⟨x5, x6, x7, es, ps, t1, rfl, La, t1b, esl⟩
      have ib : i < 4 := by omega
      walk_at "rd"
      refine ⟨⟨by decide, by decide, by decide⟩, ?_⟩
      walk_at "rd"
      refine ⟨(by show 2 ≤ sizeLine; decide), fun l nl => ?_⟩
      have lac := La.src.na nl
      refine ⟨a, c, t1, l, _, rfl, La.src.new nl, by omega, upd_same, lac.1, lac.2, by decide, by decide, fun x Hb hx Sb Ob => ?_⟩
      have Lb := (La.same (fun b u z => (upd_ne (ne_of_none z nl)).trans z)).go Ob Sb
      clear Ob Sb lac nl
      obtain ⟨mo, rfl, m0, m1⟩ : ∃ mo : Int, x = .int mo ∧ 1 ≤ mo ∧ mo ≤ 10 ^ 30 := by
        simp only [List.mem_cons, List.not_mem_nil, or_false] at hx
        rcases hx with rfl | rfl
        · exact ⟨_, rfl, by decide, by decide⟩
        · exact ⟨_, rfl, by decide, by decide⟩
      walk_at "rd"
      refine ⟨a, c, t1 + 1, mo, rfl, Lb.src, m0, m1, by omega, fun sp o s m Hc t2 nsp hsp fit t2b Sc Oc => ?_⟩
      have Lc := Lb.go Oc Sc
      clear Oc Sc
      obtain ⟨s0', s1', o0, o1, md⟩ := fit
      have SP : SideP o s m := ⟨by omega, by omega, s0', by omega, md⟩
      walk_at "rd"
      refine ⟨a, c, t2, 30, rfl, Lc.src, by omega, by decide, lg_small (by decide) (by decide), fun k3 Hd k30 k31 Sd' Od => ?_⟩
      have hsp2 := (TupK.oth Lc.src Od) _ _ hsp
      have Ld := Lc.go Od Sd'
      clear Od Sd' hsp
      walk_at "rd"
      refine ⟨(by show 6 ≤ sizeLine; decide), fun l nl => ?_⟩
      have lac := Ld.src.na nl
      generalize e8 : upd Hd l _ = He1
      have g8 : He1 l = some (.lst [.int 0, .int 1, .int 2, .int 3, .int 60, .int k3]) := by rw [← e8]; exact upd_same
      have s8' : Same Hd He1 := by rw [← e8]; exact fun b u z => (upd_ne (ne_of_none z nl)).trans z
      clear e8
      have Le1 := Ld.same s8'
      refine ⟨a, c, t2 + 1, l, _, rfl, Le1.src, by omega, g8, lac.1, lac.2, (by show 0 < 6; decide), (by show 6 < 2 ^ 60; decide), fun x He hx Se Oe => ?_⟩
      have hsp3 := (TupK.oth Le1.src Oe) _ _ (s8' _ _ hsp2)
      have Le := Le1.go Oe Se
      clear Oe Se lac nl Le1 hsp2
      obtain ⟨pl, rfl, p60⟩ : ∃ pl : Nat, x = .int (pl : Int) ∧ pl ≤ 60 := by
        simp only [List.mem_cons, List.not_mem_nil, or_false] at hx
        rcases hx with rfl | rfl | rfl | rfl | rfl | rfl
        · exact ⟨0, rfl, by decide⟩
        · exact ⟨1, rfl, by decide⟩
        · exact ⟨2, rfl, by decide⟩
        · exact ⟨3, rfl, by decide⟩
        · exact ⟨60, rfl, by decide⟩
        · obtain ⟨k, rfl⟩ := Int.eq_ofNat_of_zero_le k30
          exact ⟨k, rfl, by omega⟩
      walk_at "rd"
      refine ⟨.inl ⟨rfl, _, SqL.of Le.hF⟩, ?_⟩
      obtain ⟨nx, ex⟩ : ∃ nx, nm[i]? = some nx := ⟨_, List.getElem?_eq_getElem (by omega)⟩
      walk_at "rd"
      refine ⟨N, _, _, _, rfl, rfl, SqL.of Le.hN, (by rw [Int.zero_add]; exact at_nat (by rw [List.getElem?_map, ex]; rfl)), ?_⟩
      walk_at "rd"
      refine ⟨(by show 4 ≤ sizeLine; decide), fun p np => ?_⟩
      generalize e9 : upd He p _ = Hf
      have g9 : Hf p = some (.tup [.str "side", .str nx, .ref sp, .int (pl : Int)]) := by rw [← e9]; exact upd_same
      have s9 : Same He Hf := by rw [← e9]; exact fun b u z => (upd_ne (ne_of_none z np)).trans z
      clear e9
      have Lf := Le.same s9
      have ea : EntAt Hf p (.side nx o s m pl) := ⟨sp, g9, s9 _ _ hsp3⟩
      have nN := nmn nx (List.mem_of_getElem? ex)
      have eo : EntOk es (.side nx o s m pl) := ⟨nN, Le.fr i nx (Nat.le_refl _) ex, SP, p60⟩
      have psl := Lf.len
      have Lg := Lf.addF (i := i) (u' := i + 1) ea eo ex nmd (by omega) (by omega)
      refine ⟨Fo, _, _, rfl, rfl, Lf.hF, ?_, ?_⟩
      · rw [List.length_map]
        exact Nat.lt_of_le_of_lt (by omega : _ ≤ 4) (by decide)
      have e10 : ps.map V.ref ++ [V.ref p] = (ps ++ [p]).map V.ref := by rw [List.map_append]; rfl
      rw [e10]
      generalize e11 : upd Hf Fo _ = Hg at Lg ⊢
      have ea2 : EntAt Hg p (.side nx o s m pl) := by rw [← e11]; exact ea.tk (TupK.lst Lf.hF)
      clear e11
      walk_at "rd"
      refine ⟨.inl ⟨rfl, _, SqL.of Lg.hS⟩, ?_⟩
      walk_at "rd"
      refine ⟨Fo, _, _, _, rfl, rfl, SqL.of Lg.hF, (by rw [List.map_append]; exact atI_last _ _), ?_⟩
      have sdp : SdN Hg (es ++ [.side nx o s m pl]) p nx := ⟨o, s, m, pl, nN, ea2, find_new (Le.fr i nx (Nat.le_refl _) ex), SP, p60⟩
      have Lh := Lg.addS sdp
      refine ⟨So, _, _, rfl, rfl, Lg.hS, ?_, ?_⟩
      · rw [List.length_map]
        exact Nat.lt_of_le_of_lt (by omega : _ ≤ 4) (by decide)
      rw [e10]
      exact ⟨_, _, _, es ++ [.side nx o s m pl], ps ++ [p], t2 + 1 + 1, rfl, Lh, by omega, by rw [List.length_append, esl]; rfl⟩
    rintro st Ha ⟨x5, x6, x7, es, ps, t1, rfl, La, t1b, esl⟩
    walk_at "rd"
    refine ⟨a, c, t1, 4, rfl, La.src, by omega, by decide, lg_small (by decide) (by decide), fun k2 Hb k20 k21 Sb Ob => ?_⟩
    obtain ⟨kn2, rfl⟩ := Int.eq_ofNat_of_zero_le k20
    have kl2 : kn2 < 4 := by omega
    have Lb := La.go Ob Sb
    walk_at "rd"
    refine ⟨by omega, by omega, ?_⟩
    rw [Int.toNat_natCast]
    have Lu := Lb.up (u' := 4 + 2 * 0) (by omega)
    have psl := Lb.len
    refine for_range (fun i st H' => ∃ (x5 x6 x7 x8 x9 x10 x11 x12 : Option V) (es : List Ent) (ps sd : List Addr) (t' : Nat), st = [some (.ref a), some (.ref N), some (.int (fn : Int)), some (.ref Fo), some (.ref So), x5, x6, x7, x8, x9, x10, x11, x12] ∧ LE H H' a c N Fo So t' (4 + 2 * i) nm es ps sd ∧ t' ≤ t + 210 + 80 * i ∧ 1 ≤ sd.length ∧ sd.length ≤ 4 ∧ 1 ≤ es.length ∧ es.length ≤ 4 + 2 * i)
      ⟨_, _, _, none, none, none, none, none, es, ps, ps, t1 + 1, rfl, Lu, by omega, by omega, by omega, by omega, by omega⟩ ?_ ?_
    · clear La t1b esl Lb Lu psl Sb Ob L8 S8 O8 L0 x5 x6 x7 es ps t1 Ha Hb
      rintro i st Ha hi ⟨x5, x6, x7, x8, x9, x10, x11, x12, es, ps, sd, t1, rfl, La, t1b, sd1, sd4, es1, es4⟩
      walk_at "rd"
      refine ⟨a, c, t1, 4, rfl, La.src, by omega, by decide, lg_small (by decide) (by decide), fun k3 Hb k30 k31 Sb Ob => ?_⟩
      obtain ⟨kn3, rfl⟩ := Int.eq_ofNat_of_zero_le k30
      have kl3 : kn3 < 4 := by omega
      have Lb := La.go Ob Sb
      clear Ob Sb La
      walk_at "rd"
      refine ⟨by omega, by omega, fun D nD => ?_⟩
      have fD := Lb.free nD
      have naD := Lb.src.na nD
      have nND := ne_of_none Lb.hN nD
      have nFD := ne_of_none Lb.hF nD
      have nSD := ne_of_none Lb.hS nD
      refine lc_range (fun j Hj => ∃ (qs : List Addr) (t' : Nat), Hj D = some (.lst (qs.map V.ref)) ∧ qs.length = j ∧ (∀ q ∈ qs, q ∈ sd) ∧ LE H Hj a c N Fo So t' (4 + 2 * i) nm es ps sd ∧ t' ≤ t1 + 1 + j) ⟨[], t1 + 1, upd_same, rfl, (fun q hq => by cases hq), Lb.same fun b u z => (upd_ne (ne_of_none z nD)).trans z, by omega⟩ ?_ ?_
      · rintro j Hj hj ⟨qs, t2, hD, ql, qm, Lj, t2b⟩
        refine ⟨rfl, ?_⟩
        walk_at "rd"
        refine ⟨a, c, t2, So, _, rfl, Lj.src, by omega, Lj.hS, Lj.aS.1, Lj.aS.2, by rw [List.length_map]; omega, by rw [List.length_map]; omega, fun x Hk hx Sk Ok => ?_⟩
        obtain ⟨q, hq, rfl⟩ := List.mem_map.mp hx
        have Lk := Lj.go Ok Sk
        have hDk := Ok _ _ hD naD.1 naD.2
        refine ⟨_, hDk, ?_, qs ++ [q], t2 + 1, ?_, by rw [List.length_append, ql]; rfl, ?_, Lk.other hDk fD nND nFD nSD naD, by omega⟩
        · rw [List.length_map]
          exact Nat.lt_of_le_of_lt (by omega : _ ≤ 4) (by decide)
        · rw [List.map_append]
          exact upd_same
        · intro y hy
          rcases List.mem_append.mp hy with hy | hy
          · exact qm y hy
          · rcases List.mem_singleton.mp hy with rfl
            exact hq
      rintro Hc ⟨qs, t2, hD, ql, qm, Lc, t2b⟩
      have ql' : qs.length = kn3 + 1 := by omega
      obtain ⟨ns, nsl, nsp⟩ := names_of (H := Hc) (es := es) qs fun q hq => Lc.sdn q (qm q hq)
      obtain ⟨nx, ex⟩ : ∃ nx, nm[4 + 2 * i]? = some nx := ⟨_, List.getElem?_eq_getElem (by omega)⟩
      walk_at "rd"
      refine ⟨.inl ⟨by decide, by decide⟩, ?_⟩
      walk_at "rd"
      refine ⟨N, _, _, _, rfl, rfl, SqL.of Lc.hN, (by rw [show (4 : Int) + 2 * (0 + (i : Int)) = ((4 + 2 * i : Nat) : Int) by omega]; exact at_nat (by rw [List.getElem?_map, ex]; rfl)), ?_⟩
      walk_at "rd"
      refine ⟨.inl ⟨rfl, _, SqL.of Lc.hF⟩, ?_⟩
      walk_at "rd"
      refine ⟨⟨_, SqL.of hD⟩, fun D2 nD2 => ?_⟩
      refine lc_it (walk_list (K := K) (a := D) (xs := qs.map V.ref)) (fun j Hj => Hj D2 = some (.lst ((ns.take j).map V.str)) ∧ Same Hc Hj) ⟨upd_same, fun b u z => (upd_ne (ne_of_none z nD2)).trans z⟩ (fun _ _ _ ⟨_, s3⟩ => SqL.of (s3 _ _ hD)) ?_ ?_
      · rintro j y Hj Hk hj ⟨hD2, sj⟩ ⟨rfl, ey⟩
        rw [List.getElem?_map] at ey
        obtain ⟨q, eq, rfl⟩ := Option.map_eq_some_iff.mp ey
        rw [List.length_map] at hj
        obtain ⟨x, exn⟩ : ∃ x, ns[j]? = some x := ⟨_, List.getElem?_eq_getElem (by omega)⟩
        obtain ⟨o, s, m, pl, nN, ⟨qa, hp, hq⟩, fe, SP, p60⟩ := nsp j q x eq exn
        refine ⟨rfl, ?_⟩
        walk_at "rd"
        refine ⟨q, _, _, _, rfl, rfl, SqT.of (sj _ _ hp), at_nat (k := 1) rfl, ?_⟩
        refine ⟨_, hD2, ?_, ?_, fun b u z => (upd_ne (ne_of_none z nD2)).trans (sj _ _ z)⟩
        · rw [List.length_map, List.length_take]
          exact Nat.lt_of_le_of_lt (by omega : _ ≤ 4) (by decide)
        · rw [List.take_succ, exn, List.map_append]
          exact upd_same
      rintro Hd ⟨hD2, sd'⟩
      rw [List.length_map, ← nsl, List.take_length] at hD2
      walk_at "rd"
      refine ⟨D2, _, rfl, .inl ⟨SqL.of hD2, fun tp ntp => ?_⟩⟩
      generalize e8 : upd Hd tp _ = He
      have g8 : He tp = some (.tup (ns.map V.str)) := by rw [← e8]; exact upd_same
      have s8' : Same Hd He := by rw [← e8]; exact fun b u z => (upd_ne (ne_of_none z ntp)).trans z
      clear e8
      walk_at "rd"
      refine ⟨(by show 3 ≤ sizeLine; decide), fun p np => ?_⟩
      generalize e9 : upd He p _ = Hf
      have g9 : Hf p = some (.tup [.str "set", .str nx, .ref tp]) := by rw [← e9]; exact upd_same
      have s9 : Same He Hf := by rw [← e9]; exact fun b u z => (upd_ne (ne_of_none z np)).trans z
      clear e9
      have sc := sd'.trans (s8'.trans s9)
      have Lf := Lc.same sc
      have hDf := sc _ _ hD
      have nspf : ∀ (i : Nat) (q : Addr) (x : Str), qs[i]? = some q → ns[i]? = some x → SdN Hf es q x := fun i q x a b => (nsp i q x a b).tk fun b xs h => sc _ _ h
      have ea : EntAt Hf p (.set nx ns) := ⟨tp, g9, s9 _ _ g8⟩
      have nN := nmn nx (List.mem_of_getElem? ex)
      have eo : EntOk es (.set nx ns) := by
        refine ⟨nN, Lc.fr (4 + 2 * i) nx (Nat.le_refl _) ex, by omega, by omega, fun x hx => ?_⟩
        obtain ⟨j, hj⟩ := List.getElem?_of_mem hx
        have jl : j < ns.length := (List.getElem?_eq_some_iff.mp hj).1
        obtain ⟨q, hq⟩ : ∃ q, qs[j]? = some q := ⟨_, List.getElem?_eq_getElem (by omega)⟩
        obtain ⟨o, s, m, pl, nN, _, fe, _, _⟩ := nsp j q x hq hj
        exact ⟨nN, o, s, m, pl, fe⟩
      have psl := Lf.len
      have Lg := Lf.addF (i := 4 + 2 * i) (u' := 4 + 2 * i + 1) ea eo ex nmd (by omega) (by omega)
      refine ⟨Fo, _, _, rfl, rfl, Lf.hF, ?_, ?_⟩
      · rw [List.length_map]
        exact Nat.lt_of_le_of_lt (by omega : _ ≤ 10) (by decide)
      have e10 : ps.map V.ref ++ [V.ref p] = (ps ++ [p]).map V.ref := by rw [List.map_append]; rfl
      rw [e10]
      have kf : TupK Hf (upd Hf Fo (.lst ((ps ++ [p]).map V.ref))) := TupK.lst Lf.hF
      have hDg := (upd_ne (H := Hf) (o := .lst ((ps ++ [p]).map V.ref)) nFD.symm).trans hDf
      generalize upd Hf Fo (.lst ((ps ++ [p]).map V.ref)) = Hg at Lg kf hDg ⊢
      have nspg : ∀ (i : Nat) (q : Addr) (x : Str), qs[i]? = some q → ns[i]? = some x → SdN Hg (es ++ [.set nx ns]) q x := fun i q x a b => ((nspf i q x a b).tk kf).add _
      have fg : findE (es ++ [.set nx ns]) nx = some (.set nx ns) := find_new (e := .set nx ns) eo.2.1
      clear nsp nspf hD hDf Lf Lc sd' s8' s9 sc g8 g9 hD2 ea kf
      have esl : (es ++ [Ent.set nx ns]).length = es.length + 1 := by rw [List.length_append]; rfl
      generalize es ++ [Ent.set nx ns] = es2 at Lg nspg fg esl
      generalize ps ++ [p] = ps2 at Lg
      walk_at "rd"
      refine ⟨a, c, t2, 2, rfl, Lg.src, by omega, by decide, lg_small (by decide) (by decide), fun k4 Hh k40 k41 Sh Oh => ?_⟩
      have Lh := Lg.go Oh Sh
      have hDh := Oh _ _ hDg naD.1 naD.2
      have kh : TupK Hg Hh := TupK.oth Lg.src Oh
      walk_at "rd"
      refine ⟨rfl, _, rfl, ?_⟩
      refine ite2 (fun _ => ?_) (fun _ => ?_)
      · walk_at "rd"
        refine ⟨(by show 0 ≤ sizeLine; decide), fun Ln nLn => ?_⟩
        have fLn := Lh.free nLn
        have naL := Lh.src.na nLn
        have nNL := ne_of_none Lh.hN nLn
        have nFL := ne_of_none Lh.hF nLn
        have nSL := ne_of_none Lh.hS nLn
        have nDL := ne_of_none hDh nLn
        generalize e12 : upd Hh Ln _ = Hi
        have g12 : Hi Ln = some (.lst []) := by rw [← e12]; exact upd_same
        have s12 : Same Hh Hi := by rw [← e12]; exact fun b u z => (upd_ne (ne_of_none z nLn)).trans z
        clear e12
        have Li := Lh.same s12
        have hDi := s12 _ _ hDh
        have ki : TupK Hg Hi := fun b xs h => s12 _ _ (kh b xs h)
        clear hDh kh Lh Sh Oh hDg
        walk_at "rd"
        refine ⟨a, c, t2 + 1, 5, rfl, Li.src, by omega, by decide, lg_small (by decide) (by decide), fun k5 Hj k50 k51 Sj Oj => ?_⟩
        obtain ⟨kn5, rfl⟩ := Int.eq_ofNat_of_zero_le k50
        have kl5 : kn5 < 5 := by omega
        have Lj := Li.go Oj Sj
        have hDj := Oj _ _ hDi naD.1 naD.2
        have hLj := Oj _ _ g12 naL.1 naL.2
        have kj : TupK Hg Hj := fun b xs h => TupK.oth Li.src Oj b xs (ki b xs h)
        clear Li hDi g12 ki s12 Sj Oj
        walk_at "rd"
        refine ⟨by omega, by omega, ?_⟩
        rw [Int.toNat_natCast]
        refine for_range (fun j st H' => ∃ (x6 x8 x12 : Option V) (rs : List Addr) (ls : List (Str × Str)) (t' : Nat), st = [some (.ref a), some (.ref N), some (.int (fn : Int)), some (.ref Fo), some (.ref So), some (.int (0 + (i : Int))), x6, x7, x8, some (.ref D), some (.str nx), some (.ref Ln), x12] ∧ LE H H' a c N Fo So t' (4 + 2 * i + 1) nm es2 ps2 sd ∧ H' D = some (.lst (qs.map V.ref)) ∧ H' Ln = some (.lst (rs.map V.ref)) ∧ TupK Hg H' ∧ rs.length = ls.length ∧ ls.length = j ∧ (∀ (i : Nat) (r : Addr) (l : Str × Str), rs[i]? = some r → ls[i]? = some l → H' r = some (.tup [.str l.1, .str l.2])) ∧
          (∀ l ∈ ls, l.1 ∈ ns ∧ NameP l.1 ∧ ∃ o s m pl fig, findE es2 l.1 = some (.side l.1 o s m pl) ∧ -10 ^ 62 < fig ∧ fig < 10 ^ 62 ∧ pl ≤ 60 ∧ l.2 = textM fig pl false false 0) ∧ t' ≤ t2 + 2 + 9 * j)
          ⟨_, _, _, [], [], t2 + 1 + 1, rfl, Lj, hDj, hLj, kj, rfl, rfl, (fun i r l h => by simp at h), (fun l h => by cases h), by omega⟩ ?_ ?_
        · clear Lj hDj hLj kj
          rintro j st Hj hj ⟨x6, x8, x12, rs, ls, t3, rfl, Lj, hDj, hLj, kj, rl, ll, rat, lok, t3b⟩
          walk_at "rd"
          refine ⟨a, c, t3, D, _, rfl, Lj.src, by omega, hDj, naD.1, naD.2, by rw [List.length_map]; omega, by rw [List.length_map]; omega, fun x Hk hx Sk Ok => ?_⟩
          obtain ⟨q, hq, rfl⟩ := List.mem_map.mp hx
          obtain ⟨jq, ejq⟩ := List.getElem?_of_mem hq
          have jql : jq < qs.length := (List.getElem?_eq_some_iff.mp ejq).1
          obtain ⟨xn, exn⟩ : ∃ x, ns[jq]? = some x := ⟨_, List.getElem?_eq_getElem (by omega)⟩
          obtain ⟨o, s, m, pl, nN', ea', fe, SP, p60⟩ := nspg jq q xn ejq exn
          have kk : TupK Hj Hk := TupK.oth Lj.src Ok
          have Lk := Lj.go Ok Sk
          have hDk := Ok _ _ hDj naD.1 naD.2
          have hLk := Ok _ _ hLj naL.1 naL.2
          clear Lj hDj hLj Ok Sk
          walk_at "rd"
          refine ⟨⟨by decide, by decide, by decide⟩, ?_⟩
          walk_at "rd"
          refine ⟨(by show 3 ≤ sizeLine; decide), fun l nl => ?_⟩
          have lac := Lk.src.na nl
          generalize e13 : upd Hk l _ = Hl
          have g13 : Hl l = some (.lst [.int 1, .int 100, .int ((10 : Int) ^ (40 : Int).toNat)]) := by rw [← e13]; exact upd_same
          have s13 : Same Hk Hl := by rw [← e13]; exact fun b u z => (upd_ne (ne_of_none z nl)).trans z
          clear e13
          have Ll := Lk.same s13
          refine ⟨a, c, t3 + 1, l, _, rfl, Ll.src, by omega, g13, lac.1, lac.2, by decide, by decide, fun x Hm hx Sm Om => ?_⟩
          obtain ⟨lim, rfl, l0, l1⟩ : ∃ lim : Int, x = .int lim ∧ 1 ≤ lim ∧ lim ≤ 10 ^ 40 := by
            simp only [List.mem_cons, List.not_mem_nil, or_false] at hx
            rcases hx with rfl | rfl | rfl
            · exact ⟨_, rfl, by decide, by decide⟩
            · exact ⟨_, rfl, by decide, by decide⟩
            · exact ⟨_, rfl, by decide, by decide⟩
          have Lm := Ll.go Om Sm
          refine ⟨a, c, t3 + 1 + 1, lim, rfl, Lm.src, by omega, by omega, fun g Hn gg0 gg1 Sn On => ?_⟩
          have Ln' := Lm.go On Sn
          walk_at "rd"
          refine ⟨a, c, t3 + 1 + 1 + 5, 100, rfl, Ln'.src, by omega, by decide, lg_small (by decide) (by decide), fun k6 Ho k60 k61 So' Oo => ?_⟩
          have Lo := Ln'.go Oo So'
          have hDo := Oo _ _ (On _ _ (Om _ _ (s13 _ _ hDk) naD.1 naD.2) naD.1 naD.2) naD.1 naD.2
          have hLo := Oo _ _ (On _ _ (Om _ _ (s13 _ _ hLk) naL.1 naL.2) naL.1 naL.2) naL.1 naL.2
          have ko : TupK Hj Ho := fun b xs h => TupK.oth Ln'.src Oo b xs (TupK.oth Lm.src On b xs (TupK.oth Ll.src Om b xs (s13 _ _ (kk b xs h))))
          clear Lk hDk hLk g13 s13 Ll Om Sm Lm On Sn Ln' Oo So' kk hx
          obtain ⟨qa, hp, hq'⟩ := id ea'
          have hpo := ko _ _ (kj _ _ hp)
          walk_at "rd"
          refine ⟨.inl ⟨rfl, _, SqL.of hLo⟩, ?_⟩
          walk_at "rd"
          refine ⟨q, _, _, _, rfl, rfl, SqT.of hpo, at_nat (k := 1) rfl, ?_⟩
          walk_at "rd"
          refine ⟨q, _, _, _, rfl, rfl, SqT.of hpo, at_nat (k := 3) rfl, ?_⟩
          walk_at "rd"
          refine ⟨g - k6, pl, rfl, by omega, by omega, p60, ?_⟩
          walk_at "rd"
          refine ⟨(by show 2 ≤ sizeLine; decide), fun r nr => ?_⟩
          generalize e14 : upd Ho r _ = Hp'
          have g14 : Hp' r = some (.tup [.str xn, .str (textM (g - k6) pl false false 0)]) := by rw [← e14]; exact upd_same
          have s14 : Same Ho Hp' := by rw [← e14]; exact fun b u z => (upd_ne (ne_of_none z nr)).trans z
          clear e14
          have Lp := Lo.same s14
          have hDp := s14 _ _ hDo
          have hLp := s14 _ _ hLo
          refine ⟨Ln, _, _, rfl, rfl, hLp, ?_, ?_⟩
          · rw [List.length_map]
            exact Nat.lt_of_le_of_lt (by omega : _ ≤ 5) (by decide)
          have kp : TupK Hp' (upd Hp' Ln (.lst ((rs ++ [r]).map V.ref))) := TupK.lst hLp
          have Lq := Lp.other (o := .lst ((rs ++ [r]).map V.ref)) hLp fLn nNL nFL nSL naL
          have hDq := (upd_ne (H := Hp') (o := .lst ((rs ++ [r]).map V.ref)) nDL).trans hDp
          have e15 : rs.map V.ref ++ [V.ref r] = (rs ++ [r]).map V.ref := by rw [List.map_append]; rfl
          rw [e15]
          have kq : TupK Hj (upd Hp' Ln (.lst ((rs ++ [r]).map V.ref))) := fun b xs h => kp b xs (s14 _ _ (ko b xs h))
          refine ⟨_, _, _, rs ++ [r], ls ++ [(xn, textM (g - k6) pl false false 0)], t3 + 1 + 1 + 5 + 1, rfl, Lq, hDq, upd_same, fun b xs h => kq b xs (kj b xs h), by rw [List.length_append, List.length_append, rl]; rfl, by rw [List.length_append, ll]; rfl, ?_, ?_, by omega⟩
          · intro i' r' l' h1 h2
            by_cases gi : i' < rs.length
            · rw [List.getElem?_append_left gi] at h1
              rw [List.getElem?_append_left (by omega)] at h2
              exact kq _ _ (rat i' r' l' h1 h2)
            · have il : i' < (rs ++ [r]).length := (List.getElem?_eq_some_iff.mp h1).1
              rw [List.length_append, List.length_singleton] at il
              obtain rfl : i' = rs.length := by omega
              rw [List.getElem?_append_right (by omega), Nat.sub_self] at h1
              rw [List.getElem?_append_right (by omega), rl, Nat.sub_self] at h2
              injection h1 with h1
              injection h2 with h2
              subst h1
              subst h2
              exact kp _ _ g14
          · intro l' hl'
            rcases List.mem_append.mp hl' with h1 | h1
            · exact lok l' h1
            · rcases List.mem_singleton.mp h1 with rfl
              exact ⟨List.mem_of_getElem? exn, nN', o, s, m, pl, g - k6, fe, by omega, by omega, p60, rfl⟩
        rintro st Hj ⟨x6, x8, x12, rs, ls, t3, rfl, Lj, hDj, hLj, kj, rl, ll, rat, lok, t3b⟩
        obtain ⟨ny, ey⟩ : ∃ ny, nm[5 + 2 * i]? = some ny := ⟨_, List.getElem?_eq_getElem (by omega)⟩
        walk_at "rd"
        refine ⟨.inl ⟨rfl, _, SqL.of Lj.hF⟩, ?_⟩
        walk_at "rd"
        refine ⟨.inl ⟨by decide, by decide⟩, ?_⟩
        walk_at "rd"
        refine ⟨N, _, _, _, rfl, rfl, SqL.of Lj.hN, (by rw [show (5 : Int) + 2 * (0 + (i : Int)) = ((5 + 2 * i : Nat) : Int) by omega]; exact at_nat (by rw [List.getElem?_map, ey]; rfl)), ?_⟩
        walk_at "rd"
        refine ⟨Ln, _, rfl, .inl ⟨SqL.of hLj, fun tq ntq => ?_⟩⟩
        generalize e16 : upd Hj tq _ = Hk
        have g16 : Hk tq = some (.tup (rs.map V.ref)) := by rw [← e16]; exact upd_same
        have s16 : Same Hj Hk := by rw [← e16]; exact fun b u z => (upd_ne (ne_of_none z ntq)).trans z
        clear e16
        walk_at "rd"
        refine ⟨(by show 4 ≤ sizeLine; decide), fun p2 np2 => ?_⟩
        generalize e17 : upd Hk p2 _ = Hl
        have g17 : Hl p2 = some (.tup [.str "log", .str ny, .str nx, .ref tq]) := by rw [← e17]; exact upd_same
        have s17 : Same Hk Hl := by rw [← e17]; exact fun b u z => (upd_ne (ne_of_none z np2)).trans z
        clear e17
        have Ll := Lj.same (s16.trans s17)
        have eb : EntAt Hl p2 (.log ny nx ls) := ⟨tq, rs, g17, s17 _ _ g16, rl, fun i' r' l' h1 h2 => s17 _ _ (s16 _ _ (rat i' r' l' h1 h2))⟩
        have ebo : EntOk es2 (.log ny nx ls) := by
          refine ⟨nmn ny (List.mem_of_getElem? ey), Lj.fr (5 + 2 * i) ny (by omega) ey, ⟨ns, by omega, nN, fg, fun l hl => (lok l hl).1⟩, by omega, fun l hl => ?_⟩
          obtain ⟨_, h1, o, s, m, pl, fig, h2, h3, h4, h5, h6⟩ := lok l hl
          exact ⟨h1, o, s, m, pl, fig, h2, h3, h4, h5, h6⟩
        have Lm := Ll.addF (i := 5 + 2 * i) (u' := 4 + 2 * i + 2) eb ebo ey nmd (by omega) (by omega)
        have psl2 := Ll.len
        refine ⟨Fo, _, _, rfl, rfl, Ll.hF, ?_, ?_⟩
        · rw [List.length_map]
          exact Nat.lt_of_le_of_lt (by omega : _ ≤ 12) (by decide)
        have e18 : ps2.map V.ref ++ [V.ref p2] = (ps2 ++ [p2]).map V.ref := by rw [List.map_append]; rfl
        rw [e18]
        exact ⟨_, _, _, _, _, _, _, _, es2 ++ [.log ny nx ls], ps2 ++ [p2], sd, t3, rfl, Lm, by omega, sd1, sd4, by rw [List.length_append]; omega, by rw [List.length_append, List.length_singleton]; omega⟩
      · exact ⟨_, _, _, _, _, _, _, _, es2, ps2, sd, t2 + 1, rfl, Lh.up (by omega), by omega, sd1, sd4, by omega, by omega⟩
    rintro st Hz ⟨x5', x6', x7', x8, x9, x10, x11, x12, es', ps', sd, tz, rfl, Lz, tzb, sd1, sd4, es1, es4⟩
    walk_at "rd"
    exact q Fo Hz es' tz Lz.fF (by omega) Lz.src Lz.oth Lz.aF.1 Lz.aF.2 ⟨ps', Lz.len, Lz.hF, Lz.at_⟩ Lz.ok es1 (by omega)
end
end HT
namespace HT
open PySem PySem.Spec PyProof.Rows L2 CwR
section
variable {X : Cx}
/-- an expression behind which a token is out -/
def PEB (X : Cx) (e : Expr) (t : TE) : Prop := ∀ (pins : List (Addr × Obj)) (s : Shared) (σ : L2.St) (H : Hp) (Q : VK), Inv X pins σ H s → t σ H Q →
  wpAny (model X.prog X.w) X.A (eval e X.env) (fun u s' => 1 ≤ s'.toks ∧ EP X pins σ Q u s') X.xe s
def tSplitC (to : TE) (y : Str) : TE := fun σ H Q => to σ H fun v H1 => ∃ a, v = .str a ∧ (y.length == 0) = false ∧ a.length + 2 ≤ sizeLine ∧ rNewStrs (Txt.split a y) H1 Q
theorem peb_split {o : Expr} {to : TE} {y : Str} {j : Nat} {c apos pos : Pos} (ho : PE X o to)
    (hst : starEach [.Constant (.str y) j c] X.env = [(false, eval (.Constant (.str y) j c) X.env)] := by rfl)
    (hbase : attributeBase o "split" X.env (eval o X.env) = eval o X.env := by rfl) (hline : (apos.endLine == pos.line) = true := by rfl) :
    PEB X (.Call (.Attribute o "split" apos) [.Constant (.str y) j c] [] pos) (tSplitC to y) := by
  intro pins s σ H Q I h
  refine PySem.Call_method1 hbase hst hline (thn (ho.run pins s σ H _ I h) fun v s1 ⟨x, H1, I1, r1, q1⟩ => ?_)
  obtain ⟨a, rfl, hy, hz, q⟩ := q1
  obtain ⟨t, rfl⟩ := r1
  refine ⟨"str", _, PySem.F.plainAttrs_str, PySem.F.slot_str_split, PySem.F.type_str_split, typeIs_str _ _ _, (fun _ e => nomatch e), Calls.callWith_builtin rfl (Calls.evalArgs_plain (Calls.spliced_cons (Calls.Constant_str (Calls.spliced_nil ?_))))⟩
  have m := mt_split (X := X) pins { s1 with toks := s1.toks + 1 } σ H1 (.str a) [.str y] (.str a t) [.str y s1.toks] Q (I1.tok _) ⟨t, rfl⟩ (.cons ⟨_, rfl⟩ .nil) ⟨a, y, rfl, rfl, hy, hz, q⟩
  exact wpAny_mono (PySem.wpAny_toks m) (fun u s2 z => ⟨Nat.le_trans (Nat.le_add_left 1 s1.toks) z.1, z.2⟩) fun _ _ z => z.2
/-- the walk over a new list, a token out in the body -/
theorem ps_forB {tg iter : Expr} {body : List Stmt} {tl : TE} {g : TG} {tb : TS} {pos : Pos} (own : PassesOwn (model X.prog X.w) X.A X.env X.xe) (calm : X.calm = true) (hi : PEB X iter tl) (hg : PG X tg g) (hb : PSsT X body tb)
    (hs : ∀ x, foldedSetIterable iter X.env x = pure x := by intro _; rfl) : PS X (.For tg iter body [] pos) (tFor (iList X.K tl) g tb) := by
  refine ⟨fun pins s σ H D I h => ?_⟩
  unfold tFor iList at h
  refine wpAny_For (thn (hi pins s σ H _ I h) fun v s1 z => ?_) hs
  obtain ⟨k1, x, H1, I1, r1, a, rfl, ⟨xs, hq⟩, W, ⟨m0, w0⟩, turn⟩ := z
  cases r1
  obtain ⟨its, rv, p, hz⟩ := I1.list hq
  refine wpAny_mono (PySem.wpAny_toks (wpAny_pyIter_list (Q := fun u s2 => PIE X pins σ tg (fun J H2 => J = Itl X.K a ∧ H2 = H1) u s2) p.isList ?_)) ?_ fun _ _ z => z.2
  · have free : H1 s1.heap.objs.size = none := I1.hok.fresh (Nat.le_refl _)
    exact ⟨_, [s1.heap.objs.size], _, _, H1, rfl, I1.kept (t' := s1.toks) (fun b o e => Heap.get?_push_of_some _ e), turn_list a _, ⟨_, Heap.get?_push_size _ rfl, rfl, rfl⟩, (fun b hb => by rcases List.mem_singleton.mp hb with rfl; exact I1.fpOk (Nat.le_refl _) free), rfl, rfl⟩
  rintro u s2 ⟨k2, it, fp, tn, J, H2, rfl, I2, T, st2, f2, rfl, rfl⟩
  have k12 : 1 ≤ s2.toks := Nat.le_trans k1 k2
  have rec_ : ∀ {G : Hp}, (∀ b ∈ fp, G b = none) → ∀ b ∈ fp, FpOk X pins G b := fun none b hb => ⟨none b hb, (f2 b hb).2⟩
  refine codeAny_forLoop_any (fun n z => 1 ≤ z.toks ∧ ∃ i τ G, Inv X pins τ G z ∧ tn i z.heap ∧ (∀ b ∈ fp, G b = none) ∧ W i n τ G) ?_ m0 ⟨k12, 0, σ, H2, I2, st2, (fun b hb => (f2 b hb).1), w0⟩
  rintro n s3 ⟨k3, i, τ, G, I3, st3, fr3, w3⟩
  rcases turn i n τ G w3 with ⟨stop, qn⟩ | ⟨go, N, hN, step⟩
  · refine wpAny_passesOwn own (thn (T.done X rfl rfl rfl calm i pins s3 τ G X.xe I3 (rec_ fr3) st3 stop) fun r s4 z => ?_)
    obtain ⟨rfl, I4⟩ := z
    exact wpAny_execs_nil ⟨τ, G, I4, qn⟩
  refine wpAny_passesOwn own (wpAny_mono (PySem.wpAny_toks (T.item X rfl rfl rfl calm i pins s3 τ G X.xe I3 (rec_ fr3) st3 go)) (fun r s4 z => ?_) fun _ _ z => z.2)
  obtain ⟨k4, y, rfl, h4⟩ := z
  refine wpAny_passesOwn own (wpAny_mono (PySem.wpAny_toks h4) (fun _ s5 z => ?_) fun _ _ z => z.2)
  obtain ⟨k5, vx, H5, I5, r5, y5, st5, fr5⟩ := z
  have pinned := I5.pinned (rec_ fr5) (T.obj _ _ st5)
  refine wpAny_passesOwn own (wpAny_mono (PySem.wpAny_toks (hg.run _ s5 τ H5 vx y _ pinned r5 (step vx H5 y5))) (fun _ s6 z => ?_) fun _ _ z => z.2)
  obtain ⟨k6, τ6, H6, I6, q6⟩ := z
  have k36 : 1 ≤ s6.toks := Nat.le_trans k3 (Nat.le_trans k4 (Nat.le_trans k5 k6))
  refine wpAny_passesOwn own (wpAny_mono (PySem.wpAny_toks (hb _ s6 τ6 H6 _ k36 I6 q6)) (fun f s7 z => ?_) fun _ _ z => z.2)
  obtain ⟨k7, q7⟩ := z
  have next : ∀ τ7 H7, Inv X (pins ++ pinsAt fp s5.heap) τ7 H7 s7 → N τ7 H7 → ∃ m, m < n ∧ 1 ≤ s7.toks ∧ ∃ i' σ' H', Inv X pins σ' H' s7 ∧ tn i' s7.heap ∧ (∀ b ∈ fp, H' b = none) ∧ W i' m σ' H' := by
    intro τ7 H7 I7 n7
    obtain ⟨m', lt, w7⟩ := hN τ7 H7 n7
    have kept : ∀ b ∈ fp, ∀ o, s5.heap.get? b = some o → _ := fun b hb o e => I7.pin (b, o) (List.mem_append_right _ (List.mem_append_right _ (mem_pinsAt hb e)))
    refine ⟨m', lt, Nat.le_trans k36 k7, i + 1, τ7, H7, I7.unpinned, T.keep _ _ _ st5 (fun b hb o e => (kept b hb o e).1), (fun b hb => ?_), w7⟩
    obtain ⟨o, e, _⟩ := T.obj _ _ st5 b hb
    exact (kept b hb o e).2.1
  cases f with
  | next => obtain ⟨τ7, H7, I7, n7⟩ := q7; exact next τ7 H7 I7 n7
  | cont => obtain ⟨τ7, H7, I7, n7⟩ := q7; exact next τ7 H7 I7 n7
  | brk => obtain ⟨τ7, H7, I7, n7⟩ := q7; exact ⟨τ7, H7, I7.unpinned, n7⟩
  | ret _ => obtain ⟨v7, τ7, H7, I7, r7, n7⟩ := q7; exact ⟨v7, τ7, H7, I7.unpinned, r7, n7⟩
/-- nobody has booked a token -/
theorem none_bk {K : PySem.W.Frag} {h : Heap} (x : K.In h) (e : PySem.W.nsIn K cStatics sharingNotToldKey = some none) (N : h.NoLimit) : NoneBooked h := by
  obtain ⟨mc, ns, _⟩ := N
  refine ⟨mc, ns, ?_⟩
  obtain ⟨o, es, ep, ho, hd, _, fnd⟩ := ns
  unfold PySem.W.nsIn at e
  split at e
  · rename_i c d es' n sl hl
    have h2 := x _ _ hl
    rw [ho] at h2
    obtain rfl := Option.some.inj h2
    injection hd with h3 h4
    subst h3
    rw [← fnd]
    unfold nsFind findBy
    rw [← Array.find?_toList]
    split at e
    · rename_i z; cases e
    · rename_i z; rw [z]; rfl
  · cases e
/-- line.replace(y, z * n) -/
def tReplM (to : TE) (y z : Str) (te : TE) : TE := fun σ H Q => to σ H fun v H1 => ∃ x, v = .str x ∧ te σ H1 fun k H2 => ∃ n, k = .int n ∧ 1 ≤ n ∧ MulOk z n ∧ x.length + (x.length + 1) * (Txt.mul z n).length ≤ 16777216 ∧ Q (.str (Txt.replace x y (Txt.mul z n))) H2
theorem pet_replM {o e : Expr} {to te : TE} {y z : Str} {j k : Nat} {c0 c1 c2 apos pos : Pos} (nb : PySem.W.nsIn X.K cStatics sharingNotToldKey = some none) (ho : PE X o to) (he : PE X e te)
    (hst : starEach [.Constant (.str y) j c0, .BinOp (.Constant (.str z) k c1) .Mult e c2] X.env = [(false, eval (.Constant (.str y) j c0) X.env), (false, eval (.BinOp (.Constant (.str z) k c1) .Mult e c2) X.env)] := by rfl)
    (hbase : attributeBase o "replace" X.env (eval o X.env) = eval o X.env := by rfl) (hline : (apos.endLine == pos.line) = true := by rfl) :
    PET X (.Call (.Attribute o "replace" apos) [.Constant (.str y) j c0, .BinOp (.Constant (.str z) k c1) .Mult e c2] [] pos) (tReplM to y z te) := by
  intro pins s σ H Q h0 I h
  refine PySem.Call_method2 hbase hst hline (wpAny_mono (PySem.wpAny_toks (ho.run pins s σ H _ I h)) (fun v s1 q => ?_) fun _ _ q => q.2)
  obtain ⟨k1, v', H1, I1, r1, x, rfl, q⟩ := q
  obtain ⟨tx, rfl⟩ := r1
  refine ⟨"str", _, PySem.F.plainAttrs_str, PySem.F.slot_str_replace, PySem.F.type_str_replace, typeIs_str _ _ _, (fun _ e => nomatch e), Calls.callWith_builtin rfl (Calls.evalArgs_plain (Calls.spliced_cons (Calls.Constant_str (Calls.spliced_cons (wpAny_BinOp (Calls.Constant_str ?_))))))⟩
  refine wpAny_mono (PySem.wpAny_toks (he.run pins { s1 with toks := s1.toks + 1 + 1 } σ H1 _ (I1.tok _) q)) (fun w s2 q2 => ?_) fun _ _ q => q.2
  obtain ⟨k2, w', H2, I2, r2, n, rfl, n1, ok, hz, q⟩ := q2
  obtain ⟨tn, rfl⟩ := r2
  have k2' : s1.toks + 1 + 1 ≤ s2.toks := k2
  have p1 : 1 ≤ s1.toks := Nat.le_trans h0 k1
  -- the replacement: the same text, or a new one
  have fin : ∀ (v : Tok) (t3 : Nat), s1.toks < v → wpAny (model X.prog X.w) X.A (spliced []) (fun vs s4 => wpAny (model X.prog X.w) X.A (call (.builtin "str.replace") (.str x tx :: (.str y s1.toks :: .str (Txt.mul z n) v :: vs))) (EP X pins σ Q) X.xe s4) X.xe { s2 with toks := t3 } := fun v t3 lt => by
    have I3 := I2.tok t3
    refine Calls.spliced_nil (PySem.SC.replaceA (u := s1.toks) (v := v) (by show s1.toks ≠ 0; omega) (Nat.ne_of_gt (Nat.lt_of_le_of_lt (Nat.zero_le _) lt)) (Nat.ne_of_lt lt) hz (fun t' k => ⟨.str (Txt.replace x y (Txt.mul z n)), H2, I3.tok k, ⟨t', rfl⟩, q⟩) (none_bk I3.kIn nb I3.nolimit))
  refine P.mul_str ok.1 ok.2.1 ok.2.2 ?_
  have lt1 : ¬ n < 1 := by omega
  have em : Txt.mul z n = if (n == 1 || z.length == 0) = true then z else ⟨(List.replicate n.toNat z.cps).foldl (· ++ ·) #[]⟩ := by unfold Txt.mul; rw [if_neg lt1]
  rw [if_neg lt1]
  by_cases c : (n == 1 || z.length == 0) = true
  · rw [if_pos c] at em
    rw [if_pos c]
    rw [em] at fin
    exact fin _ s2.toks (Nat.lt_succ_self _)
  · rw [if_neg c] at em
    rw [if_neg c]
    rw [em] at fin
    refine ⟨?_, fin _ _ (by omega)⟩
    have := ok.2.2 lt1 (by simpa using c)
    have fl := fits_reps this
    exact fl
end
end HT
namespace HT
open PySem L2 TL
theorem spl_len (S : List Nat) : ∀ (l : List Nat) (k : Nat) (acc : List Nat), (spl S k acc l).length ≤ l.length + 1
  | [], k, acc => by cases k <;> simp [spl]
  | c :: r, 0, acc => by
    rw [spl]
    split
    · have := spl_len S r (S.length - 1) []
      simp only [List.length_cons]
      omega
    · have := spl_len S r 0 (acc ++ [c])
      simp only [List.length_cons]
      omega
  | c :: r, k + 1, acc => by
    rw [spl]
    have := spl_len S r k acc
    simp only [List.length_cons]
    omega
theorem parts_len (x : Str) : (Txt.split x " ").length ≤ x.length + 1 := by
  have e := split_spl x (" " : Str) (by decide +kernel) (kind_ok (by decide +kernel))
  have := spl_len (tl (" " : Str)) (tl x) 0 []
  rw [← e, List.length_map] at this
  rw [len_tl]
  exact this
/-- a line of the text, and its words -/
def LineE (ws : List Str) (w : Str) : Prop := (LineP ws ∧ w = lineW ws) ∨ (ws = [] ∧ w = (""  : Str))
theorem join_len (m : Nat) : ∀ ps : List (List Nat), (∀ p ∈ ps, p.length ≤ 1500) → (joinL (List.replicate m 32) ps).length ≤ ps.length * (1500 + m)
  | [], _ => Nat.zero_le _
  | [p], h => by
    have := h p List.mem_cons_self
    show p.length ≤ 1 * (1500 + m)
    omega
  | p :: q :: r, h => by
    have a := join_len m (q :: r) fun x hx => h x (List.mem_cons_of_mem _ hx)
    have b := h p List.mem_cons_self
    show (p ++ (List.replicate m 32 ++ joinL (List.replicate m 32) (q :: r))).length ≤ (r.length + 1 + 1) * (1500 + m)
    rw [List.length_append, List.length_append, List.length_replicate]
    rw [List.length_cons] at a
    have e : (r.length + 1 + 1) * (1500 + m) = (r.length + 1) * (1500 + m) + (1500 + m) := by rw [Nat.add_mul (r.length + 1) 1, Nat.one_mul]
    omega
theorem join_free (m : Nat) : ∀ ps : List (List Nat), (∀ p ∈ ps, 10 ∉ p) → 10 ∉ joinL (List.replicate m 32) ps
  | [], _ => by intro h; cases h
  | [p], h => h p List.mem_cons_self
  | p :: q :: r, h => by
    intro x
    have x' : 10 ∈ p ++ (List.replicate m 32 ++ joinL (List.replicate m 32) (q :: r)) := x
    rcases List.mem_append.mp x' with y | y
    · exact h p List.mem_cons_self y
    · rcases List.mem_append.mp y with y | y
      · have := (List.mem_replicate.mp y).2
        cases this
      · exact join_free m (q :: r) (fun z hz => h z (List.mem_cons_of_mem _ hz)) y
theorem wide_of {ws : List Str} {w : Str} (h : LineE ws w) {n : Int} (n1 : 1 ≤ n) (n2 : n ≤ 2) : tl (Txt.replace w (Str.ofString " ") (Txt.mul (Str.ofString " ") n)) = joinL (List.replicate n.toNat 32) (ws.map tl) := by
  have hy : tl (Txt.mul (Str.ofString " ") n) = List.replicate n.toNat 32 := tl_mul1 tl_sp n
  rcases h with ⟨p, rfl⟩ | ⟨rfl, rfl⟩
  · exact wide_line p hy
  · have e := StrLaws.replace_list (x := ("" : Str)) (y := (" " : Str)) (z := Txt.mul (Str.ofString " ") n) (by decide +kernel)
    show (Txt.replace ("" : Str) " " (Txt.mul (Str.ofString " ") n)).cps.toList = _
    rw [e]
    exact StrLaws.replL_nil
theorem loose_of {ws : List Str} {w : Str} (h : LineE ws w) {n a b : Int} (n1 : 1 ≤ n) (n2 : n ≤ 2) (a2 : a ≤ 2) (b2 : b ≤ 2) :
    wordsOfL (Txt.mul (Str.ofString " ") a ++ Txt.replace w (Str.ofString " ") (Txt.mul (Str.ofString " ") n) ++ Txt.mul (Str.ofString " ") b) = ws ∧ 10 ∉ tl (Txt.mul (Str.ofString " ") a ++ Txt.replace w (Str.ofString " ") (Txt.mul (Str.ofString " ") n) ++ Txt.mul (Str.ofString " ") b) ∧
    (Txt.mul (Str.ofString " ") a ++ Txt.replace w (Str.ofString " ") (Txt.mul (Str.ofString " ") n) ++ Txt.mul (Str.ofString " ") b).length ≤ 12030 := by
  have e : tl (Txt.mul (Str.ofString " ") a ++ Txt.replace w (Str.ofString " ") (Txt.mul (Str.ofString " ") n) ++ Txt.mul (Str.ofString " ") b) = List.replicate a.toNat 32 ++ (joinL (List.replicate (n.toNat - 1 + 1) 32) (ws.map tl) ++ List.replicate b.toNat 32) := by
    rw [tl_append, tl_append, wide_of h n1 n2, tl_mul1 tl_sp, tl_mul1 tl_sp, List.append_assoc, show n.toNat - 1 + 1 = n.toNat by omega]
  have al : ∀ p ∈ ws.map tl, 10 ∉ p ∧ p.length ≤ 1500 := by
    intro p hp
    obtain ⟨y, hy, rfl⟩ := List.mem_map.mp hp
    rcases h with ⟨P, _⟩ | ⟨rfl, _⟩
    · exact ⟨(P.al y hy).nl, by rw [← len_tl]; exact (P.al y hy).le⟩
    · cases hy
  have w8 : ws.length ≤ 8 := by
    rcases h with ⟨P, _⟩ | ⟨rfl, _⟩
    · exact P.le
    · exact Nat.zero_le _
  refine ⟨?_, ?_, ?_⟩
  · rcases h with ⟨P, _⟩ | ⟨rfl, rfl⟩
    · exact words_loose P e
    · refine words_blank (a := a.toNat + b.toNat) ?_
      rw [e]
      show _ ++ ([] ++ _) = _
      rw [List.nil_append, List.replicate_append_replicate]
  · rw [e]
    intro x
    rcases List.mem_append.mp x with y | y
    · have := (List.mem_replicate.mp y).2
      cases this
    · rcases List.mem_append.mp y with y | y
      · exact join_free _ _ (fun p hp => (al p hp).1) y
      · have := (List.mem_replicate.mp y).2
        cases this
  · rw [len_tl, e, List.length_append, List.length_append, List.length_replicate, List.length_replicate]
    have j := join_len (n.toNat - 1 + 1) (ws.map tl) fun p hp => (al p hp).2
    rw [List.length_map] at j
    have : ws.length * (1500 + (n.toNat - 1 + 1)) ≤ 8 * 1502 := Nat.mul_le_mul w8 (by omega)
    omega
theorem blank_of {a : Int} (a2 : a ≤ 2) : wordsOfL (Txt.mul (Str.ofString " ") a) = [] ∧ 10 ∉ tl (Txt.mul (Str.ofString " ") a) ∧ (Txt.mul (Str.ofString " ") a).length ≤ 12030 := by
  have e : tl (Txt.mul (Str.ofString " ") a) = List.replicate a.toNat 32 := tl_mul1 tl_sp a
  refine ⟨words_blank e, ?_, ?_⟩
  · rw [e]
    intro y
    have := (List.mem_replicate.mp y).2
    cases this
  · rw [len_tl, e, List.length_replicate]
    omega
end HT
namespace HT
open PySem L2 TL CwR
structure LZ (H0 H : Hp) (a c Fo L : Addr) (t : Nat) (ys zs : List Str) : Prop where
  src : Src H a c t
  oth : Oth a c H0 H
  hF : H Fo = some (.lst (zs.map V.str))
  hL : H L = some (.lst (ys.map V.str))
  nFL : Fo ≠ L
  fF : H0 Fo = none
  aF : Fo ≠ a ∧ Fo ≠ c
  aL : L ≠ a ∧ L ≠ c
theorem LZ.go {H0 H H1 : Hp} {a c Fo L : Addr} {t t1 : Nat} {ys zs : List Str} (Z : LZ H0 H a c Fo L t ys zs) (O : Oth a c H H1) (S1 : Src H1 a c t1) : LZ H0 H1 a c Fo L t1 ys zs := ⟨S1, Z.oth.trans O, O _ _ Z.hF Z.aF.1 Z.aF.2, O _ _ Z.hL Z.aL.1 Z.aL.2, Z.nFL, Z.fF, Z.aF, Z.aL⟩
theorem LZ.add {H0 H : Hp} {a c Fo L : Addr} {t : Nat} {ys zs : List Str} (Z : LZ H0 H a c Fo L t ys zs) (y : Str) : LZ H0 (upd H Fo (.lst (zs.map V.str ++ [.str y]))) a c Fo L t ys (zs ++ [y]) :=
  ⟨Z.src.updl Z.aF, fun b u h m1 m2 => (upd_ne (fun z => by rw [z, Z.fF] at h; cases h)).trans (Z.oth b u h m1 m2), by rw [List.map_append]; exact upd_same, (upd_ne Z.nFL.symm).trans Z.hL, Z.nFL, Z.fF, Z.aF, Z.aL⟩
/-- the words of the lines so far -/
def wordsF (zs : List Str) : List (List Str) := (zs.map wordsOfL).filter fun ws => decide (ws ≠ [])
theorem wordsF_add {zs : List Str} {y : Str} {ws : List Str} (h : wordsOfL y = ws) : wordsF (zs ++ [y]) = wordsF zs ++ (if ws = [] then [] else [ws]) := by
  unfold wordsF
  rw [List.map_append, List.filter_append]
  congr 1
  show List.filter _ [wordsOfL y] = _
  rw [h]
  by_cases e : ws = []
  · rw [if_pos e, List.filter_cons, if_neg (by simp [e])]
    rfl
  · rw [if_neg e, List.filter_cons, if_pos (by simp [e])]
    rfl
/-- a text of lines is made loose -/
def spLoose : Sp := fun vs H Q _ => ∃ (a c : Addr) (t : Nat) (z : Str) (Ls : List (List Str)), vs = [.ref a, .str z] ∧ Src H a c t ∧ t + 10000 < 2 ^ 30 ∧ z.length ≤ 16000000 ∧ Txt.split z "\n" = Ls.map lineW ++ [("" : Str)] ∧ (∀ ws ∈ Ls, LineP ws) ∧ Ls.length ≤ 520 ∧
  ∀ (y : Str) (H' : Hp) (t' : Nat), y.length ≤ 16000000 → (∀ x ∈ Txt.split y "\n", x.length ≤ 16000000 ∧ (Txt.split x " ").length ≤ 16000000) → (((Txt.split y "\n").map wordsOfL).filter fun ws => decide (ws ≠ [])) = Ls → t' ≤ t + 5000 → Src H' a c t' → Oth a c H H' → Q (.str y) H'
section
variable {P : Program} {w : World} {K : PySem.W.Frag} {mg : Str → Option Value} {base : Heap} {fD : Addr} {dD : FuncData}
theorem ok_L_loose {f : Addr} {fd : FuncData} (F : Fun K "_law_loose" "_law_loose" s_L_loose f fd) (B : Blt mg) (nb : PySem.W.nsIn K cStatics sharingNotToldKey = some none) (D : Cal P w K mg base "_law_draw" 1 ["_law_source_here", "_law_limit"] spDraw fD dD) : FnOk P w K mg base CX0 2 f fd ["_law_source_here", "_law_text_here"] spLoose := by
  refine F.ok sc_L_loose (fun vs H Q E h => ?_) (fun cdv A outer s0 H vs Q E hr h => ?_)
  · obtain ⟨a, c, t, z, Ls, rfl, _⟩ := h
    rfl
  · obtain ⟨a, c, t, z, Ls, rfl, S0, ht, zl, sp, lp, l520, q⟩ := h
    have nd := sc_L_loose.nd
    refine ⟨_, pss_cons (ps_set (i := 2) nd rfl (Or.inl rfl) (pe_lst pa_nil))
      (pss_cons (ps_forB PassesOwn.never rfl (peb_split (pv 1)) (pg_name (i := 3) nd rfl (Or.inl rfl))
        (psst_cons (PST.of (ps_for PassesOwn.never rfl (pi_range1 (by rfl) B.range (pa_cons (pcl D hr (by decide) (by rfl) (pa_cons (pv 0) (pa_cons pe_int pa_nil))) pa_nil)) (pg_name (i := 4) nd rfl (Or.inl rfl))
          (pss_one (ps_expr (pe_bm PySem.F.plainAttrs_list PySem.F.slot_list_append PySem.F.type_list_append mt_append (pv 2) (pa_cons (pe_op op_mulS pe_str (pcl D hr (by decide) (by rfl) (pa_cons (pv 0) (pa_cons pe_int pa_nil)))) pa_nil))))))
        (psst_cons (pst_set (i := 5) nd rfl (Or.inl rfl) (pet_replM nb (pv 3) (pe_op op_add pe_int (pcl D hr (by decide) (by rfl) (pa_cons (pv 0) (pa_cons pe_int pa_nil))))))
        (psst_one (PST.of (ps_expr (pe_bm PySem.F.plainAttrs_list PySem.F.slot_list_append PySem.F.type_list_append mt_append (pv 2) (pa_cons (pe_op op_add_str (pe_op op_add_str (pe_op op_mulS pe_str (pcl D hr (by decide) (by rfl) (pa_cons (pv 0) (pa_cons pe_int pa_nil)))) (pv 5)) (pe_op op_mulS pe_str (pcl D hr (by decide) (by rfl) (pa_cons (pv 0) (pa_cons pe_int pa_nil))))) pa_nil))))))))
      (pss_one (ps_ret (pe_bm PySem.F.plainAttrs_str PySem.F.slot_str_join PySem.F.type_str_join mt_join pe_str (pa_cons (pv 2) pa_nil))))), ?_⟩
    walk_at "rd"
    refine ⟨(by show 0 ≤ sizeLine; decide), fun Fo nF => ?_⟩
    generalize e1 : upd H Fo _ = H1
    have g1 : H1 Fo = some (.lst []) := by rw [← e1]; exact upd_same
    have s1 : Same H H1 := by rw [← e1]; exact fun b u z => (upd_ne (ne_of_none z nF)).trans z
    clear e1
    walk_at "rd"
    refine ⟨by decide +kernel, Nat.le_trans (by omega : z.length + 2 ≤ 16000002) (by decide), fun L nL => ?_⟩
    have sp' : Txt.split z (Str.ofString "\n") = Ls.map lineW ++ [("" : Str)] := sp
    rw [sp']
    generalize e2 : upd H1 L _ = H2
    have g2 : H2 L = some (.lst ((Ls.map lineW ++ [("" : Str)]).map V.str)) := by rw [← e2]; exact upd_same
    have s2 : Same H1 H2 := by rw [← e2]; exact fun b u z => (upd_ne (ne_of_none z nL)).trans z
    clear e2
    have yl : (Ls.map lineW ++ [("" : Str)]).length = Ls.length + 1 := by rw [List.length_append, List.length_map]; rfl
    have le : ∀ (i : Nat) (w : Str), (Ls.map lineW ++ [("" : Str)])[i]? = some w → ∃ ws, LineE ws w ∧ Ls.take (i + 1) = Ls.take i ++ (if ws = [] then [] else [ws]) := by
      intro i w hw
      by_cases g : i < Ls.length
      · rw [List.getElem?_append_left (by rw [List.length_map]; exact g), List.getElem?_map] at hw
        obtain ⟨ws, e, rfl⟩ := Option.map_eq_some_iff.mp hw
        have p := lp ws (List.mem_of_getElem? e)
        refine ⟨ws, .inl ⟨p, rfl⟩, ?_⟩
        rw [if_neg p.ne, List.take_succ, e]
        rfl
      · have il := (List.getElem?_eq_some_iff.mp hw).1
        rw [yl] at il
        obtain rfl : i = Ls.length := by omega
        rw [List.getElem?_append_right (by rw [List.length_map]; exact Nat.le_refl _), List.length_map, Nat.sub_self] at hw
        injection hw with hw
        refine ⟨[], .inr ⟨rfl, hw.symm⟩, ?_⟩
        rw [if_pos rfl, List.append_nil, List.take_of_length_le (Nat.le_refl _), List.take_of_length_le (Nat.le_succ _)]
    generalize Ls.map lineW ++ [("" : Str)] = ys at g2 yl le ⊢
    have Z0 : LZ H H2 a c Fo L t ys [] := ⟨(S0.of_same s1).of_same s2, fun b u h _ _ => s2 _ _ (s1 _ _ h), s2 _ _ g1, g2, ne_of_none g1 nL, nF, S0.na nF, (S0.of_same s1).na nL⟩
    clear g1 g2 s1 s2
    refine ⟨L, rfl, ⟨_, SqL.of Z0.hL⟩, ?_⟩
    refine for_list (K := K) (a := L) (xs := ys.map V.str) (fun i st H' => ∃ (x3 x4 x5 : Option V) (zs : List Str) (t' : Nat), st = [some (.ref a), some (.str z), some (.ref Fo), x3, x4, x5] ∧ LZ H H' a c Fo L t' ys zs ∧ t' ≤ t + 5 * i ∧ zs.length ≤ 2 * i ∧ (∀ x ∈ zs, 10 ∉ tl x ∧ x.length ≤ 12030) ∧ wordsF zs = Ls.take i ∧ i ≤ zs.length)
      ⟨none, none, none, [], t, rfl, Z0, by omega, Nat.le_refl _, (fun x hx => by cases hx), rfl, Nat.le_refl _⟩ (fun _ _ _ _ ⟨_, _, _, _, _, _, Z, _⟩ => SqL.of Z.hL) ?_ ?_
    · rintro i v st Ha ev ⟨x3, x4, x5, zs, t1, rfl, Za, t1b, z2, zb, zw, zi⟩
      rw [List.getElem?_map] at ev
      obtain ⟨w, ew, rfl⟩ := Option.map_eq_some_iff.mp ev
      have il : i < ys.length := (List.getElem?_eq_some_iff.mp ew).1
      obtain ⟨ws, LW, tk⟩ := le i w ew
      walk_at "rd"
      refine ⟨a, c, t1, 2, rfl, Za.src, by omega, by decide, lg_small (by decide) (by decide), fun k Hb k0 k1 Sb Ob => ?_⟩
      obtain ⟨kn, rfl⟩ := Int.eq_ofNat_of_zero_le k0
      have kl : kn < 2 := by omega
      have Zb := Za.go Ob Sb
      clear Ob Sb Za
      walk_at "rd"
      refine ⟨by omega, by omega, ?_⟩
      rw [Int.toNat_natCast]
      refine for_range (fun j st H' => ∃ (x4' : Option V) (zs' : List Str) (t' : Nat), st = [some (.ref a), some (.str z), some (.ref Fo), some (.str w), x4', x5] ∧ LZ H H' a c Fo L t' ys zs' ∧ t' ≤ t1 + 1 + j ∧ zs'.length = zs.length + j ∧ (∀ x ∈ zs', 10 ∉ tl x ∧ x.length ≤ 12030) ∧ wordsF zs' = Ls.take i)
        ⟨_, zs, t1 + 1, rfl, Zb, by omega, rfl, zb, zw⟩ ?_ ?_
      · clear Zb
        rintro j st Hc hj ⟨x4', zs', t2, rfl, Zc, t2b, zl', zb', zw'⟩
        walk_at "rd"
        refine ⟨.inl ⟨rfl, _, SqL.of Zc.hF⟩, ?_⟩
        walk_at "rd"
        refine ⟨a, c, t2, 3, rfl, Zc.src, by omega, by decide, lg_small (by decide) (by decide), fun k3 Hd k30 k31 Sd Od => ?_⟩
        have Zd := Zc.go Od Sd
        obtain ⟨b1, b2, b3⟩ := blank_of (a := k3) (by omega)
        walk_at "rd"
        refine ⟨mul1_ok tl_sp (by omega) (by omega), ?_⟩
        walk_at "rd"
        refine ⟨Fo, _, _, rfl, rfl, Zd.hF, ?_, ?_⟩
        · rw [List.length_map]
          exact Nat.lt_of_le_of_lt (by omega : _ ≤ 2000) (by decide)
        refine ⟨_, zs' ++ [Txt.mul (Str.ofString " ") k3], t2 + 1, rfl, Zd.add _, by omega, by rw [List.length_append, zl']; rfl, ?_, ?_⟩
        · intro x hx
          rcases List.mem_append.mp hx with hx | hx
          · exact zb' x hx
          · rcases List.mem_singleton.mp hx with rfl
            exact ⟨b2, b3⟩
        · rw [wordsF_add b1, if_pos rfl, List.append_nil]
          exact zw'
      clear Zb
      rintro st Hc ⟨x4', zs', t2, rfl, Zc, t2b, zl', zb', zw'⟩
      have wl : w.length ≤ 12010 := by
        rcases LW with ⟨P, rfl⟩ | ⟨_, rfl⟩
        · exact line_len P
        · exact Nat.zero_le _
      have ml : ∀ n : Int, n ≤ 2 → (Txt.mul (Str.ofString " ") n).length ≤ 2 := fun n g => by
        rw [len_tl, tl_mul1 tl_sp, List.length_replicate]
        omega
      have big : sizeLine = 16777216 := by decide +kernel
      walk_at "rd"
      refine ⟨a, c, t2, 2, rfl, Zc.src, by omega, by decide, lg_small (by decide) (by decide), fun k3 Hd k30 k31 Sd Od => ?_⟩
      have Zd := Zc.go Od Sd
      clear Zc Od Sd
      walk_at "rd"
      refine ⟨by omega, mul1_ok tl_sp (by omega) (by omega), ?_, ?_⟩
      · have := ml (1 + k3) (by omega)
        have : (w.length + 1) * (Txt.mul (Str.ofString " ") (1 + k3)).length ≤ 12011 * 2 := Nat.mul_le_mul (by omega) this
        show w.length + (w.length + 1) * (Txt.mul (Str.ofString " ") (1 + k3)).length ≤ 16777216
        omega
      walk_at "rd"
      refine ⟨.inl ⟨rfl, _, SqL.of Zd.hF⟩, ?_⟩
      walk_at "rd"
      refine ⟨a, c, t2 + 1, 2, rfl, Zd.src, by omega, by decide, lg_small (by decide) (by decide), fun k4 He k40 k41 Se Oe => ?_⟩
      have Ze := Zd.go Oe Se
      clear Zd Oe Se
      walk_at "rd"
      refine ⟨mul1_ok tl_sp (by omega) (by omega), ?_⟩
      have l0 := fun b => (loose_of LW (n := 1 + k3) (a := k4) (b := b) (by omega) (by omega) (by omega))
      have l00 := (l0 0 (by decide)).2.2
      simp only [Str.length_append] at l00
      walk_at "rd"
      refine ⟨?_, ?_⟩
      · show (Txt.mul (Str.ofString " ") k4).length + (Txt.replace w (Str.ofString " ") (Txt.mul (Str.ofString " ") (1 + k3))).length ≤ sizeLine
        omega
      walk_at "rd"
      refine ⟨a, c, t2 + 1 + 1, 2, rfl, Ze.src, by omega, by decide, lg_small (by decide) (by decide), fun k5 Hf k50 k51 Sf Of => ?_⟩
      have Zf := Ze.go Of Sf
      clear Ze Of Sf
      obtain ⟨b1, b2, b3⟩ := l0 k5 (by omega)
      walk_at "rd"
      refine ⟨mul1_ok tl_sp (by omega) (by omega), ?_⟩
      walk_at "rd"
      refine ⟨?_, ?_⟩
      · have := b3
        rw [Str.length_append] at this
        refine Nat.le_trans this ?_
        decide
      walk_at "rd"
      refine ⟨Fo, _, _, rfl, rfl, Zf.hF, ?_, ?_⟩
      · rw [List.length_map]
        exact Nat.lt_of_le_of_lt (by omega : _ ≤ 2000) (by decide)
      refine ⟨_, _, _, zs' ++ [Txt.mul (Str.ofString " ") k4 ++ Txt.replace w (Str.ofString " ") (Txt.mul (Str.ofString " ") (1 + k3)) ++ Txt.mul (Str.ofString " ") k5], t2 + 1 + 1 + 1, rfl, Zf.add _, by omega, ?_, ?_, ?_, ?_⟩
      · rw [List.length_append, zl', List.length_singleton]
        omega
      · intro x hx
        rcases List.mem_append.mp hx with hx | hx
        · exact zb' x hx
        · rcases List.mem_singleton.mp hx with rfl
          exact ⟨b2, b3⟩
      · rw [wordsF_add b1, zw', tk]
      · rw [List.length_append, zl', List.length_singleton]
        omega
    rintro st Ha ⟨x3, x4, x5, zs, t1, rfl, Za, t1b, z2, zb, zw, zi⟩
    rw [List.length_map] at t1b z2 zw zi
    walk_at "rd"
    have zne : zs ≠ [] := fun e => by rw [e, List.length_nil] at zi; omega
    have spl : Txt.split (Txt.join "\n" zs) "\n" = zs := split_join (s := 10) (S := []) tl_nl (by decide +kernel) zne (fun x hx => (zb x hx).1)
    have c1 : (Str.ofString "\n").length = 1 := by decide +kernel
    have sl := StrLaws.sumLen_le (B := 12030) zs (fun y hy => (zb y hy).2)
    have sl2 : zs.length * 12030 ≤ 1042 * 12030 := Nat.mul_le_mul_right _ (by omega)
    refine ⟨rfl, ?_⟩
    walk_at "rd"
    refine ⟨_, Fo, zs, rfl, rfl, .inl (SqL.of Za.hF), ?_, ?_⟩
    · rw [c1]
      omega
    refine q (Txt.join "\n" zs) Ha t1 ?_ ?_ ?_ (by omega) Za.src Za.oth
    · have e : (Txt.join "\n" zs).length = (zs.map (·.length)).sum + (zs.length - 1) * (Str.ofString "\n").length := size_glued _ _
      rw [e, c1]
      omega
    · intro x hx
      have hx' : x ∈ zs := by rw [← spl]; exact hx
      have b := (zb x hx').2
      have := parts_len x
      omega
    · rw [spl]
      show wordsF zs = Ls
      rw [zw, List.take_of_length_le (by omega)]
end
end HT
namespace HT
open PySem L2 TL CwR
def RdP (es : List Ent) (z : Str) : Prop := z.length ≤ 16000000 ∧ (∀ y ∈ Txt.split z "\n", y.length ≤ 16000000 ∧ (Txt.split y " ").length ≤ 16000000) ∧ Goes [] none ((Txt.split z "\n").map wordsOfL) es
theorem paper_snoc (es : List Ent) (e : Ent) : paperT (es ++ [e]) = paperT es ++ Txt.join ("" : Str) ((linesE e).map fun z => z ++ ("\n" : Str)) := by
  apply ext_tl
  have k0 : tl ("" : Str) = [] := by decide +kernel
  have key : ∀ a b : List (List Nat), joinL [] (a ++ b) = joinL [] a ++ joinL [] b := by
    intro a b
    induction a with
    | nil => rfl
    | cons x a ih =>
      cases a with
      | nil =>
        cases b with
        | nil => exact (List.append_nil _).symm
        | cons y b => rfl
      | cons y a =>
        show x ++ ([] ++ joinL [] ((y :: a) ++ b)) = (x ++ ([] ++ joinL [] (y :: a))) ++ joinL [] b
        rw [ih, List.nil_append, List.nil_append, List.append_assoc]
  unfold paperT allW linesE
  rw [tl_append, join_eq, join_eq, join_eq, TL.tl_join, TL.tl_join, TL.tl_join, k0, List.flatMap_append, List.map_append, List.map_append, List.map_append, key]
  congr 1
  rw [List.flatMap_cons, List.flatMap_nil, List.append_nil]
theorem lines_sum {es : List Ent} (p : ∀ ws ∈ allW es, LineP ws) (l : (allW es).length ≤ 520) : (paperT es).length ≤ 7000000 := by
  have b := StrLaws.sumLen_le (B := 12011) (((allW es).map lineW).map (fun z => z ++ ("\n" : Str))) (fun y hy => by
    obtain ⟨z, hz, rfl⟩ := List.mem_map.mp hy
    obtain ⟨ws, hw, rfl⟩ := List.mem_map.mp hz
    have := line_len (p ws hw)
    have c : ("\n" : Str).length = 1 := by decide +kernel
    rw [Str.length_append, c]
    omega)
  have e : (Txt.join ("" : Str) (((allW es).map lineW).map (fun z => z ++ ("\n" : Str)))).length = ((((allW es).map lineW).map (fun z => z ++ ("\n" : Str))).map (·.length)).sum + ((((allW es).map lineW).map (fun z => z ++ ("\n" : Str))).length - 1) * ("" : Str).length := size_glued _ _
  unfold paperT
  have c : ("" : Str).length = 0 := by decide +kernel
  rw [e, c, Nat.mul_zero]
  rw [List.length_map, List.length_map] at b
  have : (allW es).length * 12011 ≤ 520 * 12011 := Nat.mul_le_mul_right _ l
  omega
theorem all_facts {es : List Ent} (ok : AllOk es) (l : es.length ≤ 10) : (∀ ws ∈ allW es, LineP ws) ∧ (allW es).length ≤ 520 := by
  obtain ⟨a, b⟩ := all_words es [] (fun i e h => ok i e h)
  exact ⟨b, by omega⟩
theorem rows_small {es : List Ent} (p : ∀ ws ∈ allW es, LineP ws) : ∀ y ∈ (allW es).map lineW ++ [("" : Str)], y.length ≤ 16000000 ∧ (Txt.split y " ").length ≤ 16000000 := by
  intro y hy
  have : y.length ≤ 12010 := by
    rcases List.mem_append.mp hy with hy | hy
    · obtain ⟨ws, hw, rfl⟩ := List.mem_map.mp hy
      exact line_len (p ws hw)
    · rcases List.mem_singleton.mp hy with rfl
      exact Nat.zero_le _
  have := parts_len y
  omega
theorem rd_paper {es : List Ent} (ok : AllOk es) (l : es.length ≤ 10) : RdP es (paperT es) := by
  obtain ⟨p, al⟩ := all_facts ok l
  have := lines_sum p al
  exact ⟨by omega, by rw [paper_split p]; exact rows_small p, paper_goes ok⟩
theorem all_ne {es : List Ent} (l : 1 ≤ es.length) : allW es ≠ [] := by
  cases es with
  | nil => exact absurd l (by decide)
  | cons e es =>
    unfold allW
    rw [List.flatMap_cons]
    intro z
    have := (List.append_eq_nil_iff.mp z).1
    cases e <;> cases this
theorem rd_cut {es : List Ent} (ok : AllOk es) (l : es.length ≤ 10) (l1 : 1 ≤ es.length) : RdP es (cutS (paperT es) none (some (-1))) := by
  obtain ⟨p, al⟩ := all_facts ok l
  have := lines_sum p al
  have := cut_len (paperT es) none (some (-1))
  exact ⟨by omega, by rw [paper_cut (all_ne l1) p]; exact fun y hy => rows_small p y (List.mem_append_left _ hy), cut_goes ok (all_ne l1)⟩
theorem rd_none (ok : AllOk []) {z : Str} (l : z.length ≤ 1000) (h1 : ∀ y ∈ Txt.split z "\n", y.length ≤ 1000) (h2 : (((Txt.split z "\n").map wordsOfL).filter fun ws => decide (ws ≠ [])) = []) : RdP [] z :=
  ⟨by omega, fun y hy => by have a := h1 y hy; have b := parts_len y; omega, goes_lines ok h2⟩
/-- law's: a list of at most 63 ints is handed in, True comes out -/
def spLaw (K : PySem.W.Frag) : Sp := fun vs H Q _ => ∃ (l : Addr) (ns : List Int), vs = [.ref l] ∧ SqL K H l (ns.map V.int) ∧ ns.length ≤ 63 ∧ ∀ H', Q (.bl true) H'
section
variable {P : Program} {w : World} {K : PySem.W.Frag} {mg : Str → Option Value} {base : Heap} {aN f1 f2 f3 f4 f5 f6 : Addr} {d1 d2 d3 d4 d5 d6 : FuncData}
theorem ok_law {f : Addr} {fd : FuncData} (F : Fun K "law" "law" s_law f fd) (T : EnT K mg aN) (B : Blt mg) (So : Cal P w K mg base "_law_source" 1 ["_law_script"] (spSource K) f1 d1) (En : Cal P w K mg base "_law_entries" 5 ["_law_source_here"] spLEnts f2 d2)
    (Li : Cal P w K mg base "_law_lines" 1 ["_law_entry"] spLLines f3 d3) (Lo : Cal P w K mg base "_law_loose" 2 ["_law_source_here", "_law_text_here"] spLoose f4 d4) (Pa : Cal P w K mg base "paper_text" 8 ["entries"] spPaper f5 d5) (Re : Cal P w K mg base "read_paper" 9 ["text"] spReadP f6 d6) : FnOk P w K mg base CX0 10 f fd ["_law_script"] (spLaw K) := by
  refine F.ok sc_law (fun vs H Q E h => ?_) (fun cdv A outer s0 H vs Q E hr h => ?_)
  · obtain ⟨l, ns, rfl, _⟩ := h
    rfl
  · obtain ⟨l, ns, rfl, hl, hn, q⟩ := h
    have nd := sc_law.nd
    refine ⟨_, (pss_cons (ps_set (i := 1) nd rfl (Or.inl rfl) (pcl So hr (by decide) (by rfl) (pa_cons (pv 0) pa_nil)))
      (pss_cons (ps_for PassesOwn.never rfl (pi_range1 (by rfl) B.range (pa_cons pe_int pa_nil)) (pg_name (i := 2) nd rfl (Or.inl rfl)) (pss_cons (ps_set (i := 3) nd rfl (Or.inl rfl) (pcl En hr (by decide) (by rfl) (pa_cons (pv 1) pa_nil)))
      (pss_cons (ps_set (i := 4) nd rfl (Or.inl rfl) (pe_callTy call_list_of (by rfl) T.list (by decide +kernel) (pa_cons (pv 3) pa_nil)))
      (pss_cons (ps_set (i := 5) nd rfl (Or.inl rfl) pe_str)
      (pss_cons (ps_for PassesOwn.never rfl (pi_list (pv 3)) (pg_name (i := 6) nd rfl (Or.inl rfl)) (pss_one (ps_set (i := 5) nd rfl (Or.inl rfl) (pe_op op_add_str (pv 5) (pe_bm PySem.F.plainAttrs_str PySem.F.slot_str_join PySem.F.type_str_join mt_join pe_str (pa_cons (pe_lc (own := [("_law_line", 7)]) (g := gName 7) (tt := tYes) rfl nd (pi_list (pcl Li hr (by decide) (by rfl) (pa_cons (pv 6) pa_nil))) (blkOk_by (N := ["_law_script", "_law_source_here", "_law_turn", "_law_entries_here", "_law_kept", "_law_due", "_law_entry", "_law_line", "_law_text_here", "_law_found"]) (sc := defScope s_law) (by decide +kernel)) (fun _ _ _ _ _ => pg_name (i := 7) nd rfl (Or.inl rfl)) (fun _ _ _ _ _ => pts_nil) (fun _ _ _ _ _ => (pe_op op_add_str (pv 7) pe_str))) pa_nil))))))
      (pss_cons (ps_if (PW.pt (pw_or (pt_cmpR op_ne (pcl Pa hr (by decide) (by rfl) (pa_cons (pv 3) pa_nil)) (pv 5) (nomark _)) (pw_or1 (pt_cmpR (op_neD hr.units) (pv 3) (pv 4) (nomark _))))) (pss_one (ps_ret pe_bl)) pss_nil)
      (pss_cons (ps_for PassesOwn.never rfl (pi_list (pe_lst (pa_cons (pv 5) (pa_cons (pe_slice sl_str (pv 5) po_none (po_some (pe_un un_neg pe_int))) (pa_cons (pcl Lo hr (by decide) (by rfl) (pa_cons (pv 1) (pa_cons (pv 5) pa_nil))) pa_nil))))) (pg_name (i := 8) nd rfl (Or.inl rfl)) (pss_cons (ps_set (i := 9) nd rfl (Or.inl rfl) (pcl Re hr (by decide) (by rfl) (pa_cons (pv 8) pa_nil)))
      (pss_cons (ps_if (pt_cmpR (op_neD hr.units) (pv 9) (pv 3) (nomark _)) (pss_one (ps_ret pe_bl)) pss_nil)
      (pss_one (ps_expr (pe_bm PySem.F.plainAttrs_list PySem.F.slot_list_append PySem.F.type_list_append mt_append (pv 9) (pa_cons pe_non pa_nil)))))))
      (pss_one (ps_if (pt_cmpR (op_neD hr.units) (pcl Re hr (by decide) (by rfl) (pa_cons (pv 5) pa_nil)) (pv 3) (nomark _)) (pss_one (ps_ret pe_bl)) pss_nil)))))))))
      (pss_one (ps_ret (pe_and (pe_cmpR op_eq (pcl Pa hr (by decide) (by rfl) (pa_cons (pe_lst pa_nil) pa_nil)) pe_str (nomark _)) (pe_and (pe_cmpR (op_eqD hr.units) (pcl Re hr (by decide) (by rfl) (pa_cons pe_str pa_nil)) (pe_lst pa_nil) (nomark _)) (pe_one (pe_cmpR (op_eqD hr.units) (pcl Re hr (by decide) (by rfl) (pa_cons pe_str pa_nil)) (pe_lst pa_nil) (nomark _))))))))), ?_⟩
    walk_at "rd"
    refine ⟨l, ns, rfl, hl, hn, fun a c H1 _ _ _ S1 => ?_⟩
    walk_at "rd"
    refine ⟨by decide, by decide, ?_⟩
    refine for_range (n := 20) (fun i st H' => ∃ (x2 x3 x4 x5 x6 x7 x8 x9 : Option V) (t : Nat), st = [some (.ref l), some (.ref a), x2, x3, x4, x5, x6, x7, x8, x9] ∧ Src H' a c t ∧ t ≤ 6000 * i) ⟨none, none, none, none, none, none, none, none, 0, rfl, S1, by omega⟩ ?_ ?_
    · rintro i st Ha hi ⟨x2, x3, x4, x5, x6, x7, x8, x9, t, rfl, Sa, tb⟩
      walk_at "rd"
      refine ⟨a, c, t, rfl, Sa, by omega, fun en Hb es t1 nen t1b Sb Ob na nc ea ok e1 e10 => ?_⟩
      obtain ⟨ps, lps, hen, at_⟩ := id ea
      obtain ⟨LPs, l520⟩ := all_facts ok e10
      walk_at "rd"
      refine ⟨en, _, rfl, .inl (SqL.of hen), fun kp nkp => ?_⟩
      generalize e1' : upd Hb kp _ = Hc
      have gc : Hc kp = some (.lst (ps.map V.ref)) := by rw [← e1']; exact upd_same
      have sc : Same Hb Hc := by rw [← e1']; exact fun b u z => (upd_ne (ne_of_none z nkp)).trans z
      clear e1'
      have Sc := Sb.of_same sc
      have hec := sc _ _ hen
      have eac := ea.same sc
      have ekc : EntsAt Hc kp es := ⟨ps, lps, gc, fun i p e x y => (at_ i p e x y).same sc⟩
      walk_at "rd"
      refine ⟨⟨_, SqL.of hec⟩, ?_⟩
      refine for_list (K := K) (a := en) (xs := ps.map V.ref) (fun j st H' => ∃ (x6 x7 x8 x9 : Option V), st = [some (.ref l), some (.ref a), some (.int (0 + (i : Int))), some (.ref en), some (.ref kp), some (.str (paperT (es.take j))), x6, x7, x8, x9] ∧ Same Hc H') ⟨_, _, _, _, rfl, fun b u z => z⟩ (fun _ _ _ _ ⟨_, _, _, _, _, sm⟩ => SqL.of (sm _ _ hec)) ?_ ?_
      · rintro j v st Hd ev ⟨y6, y7, y8, y9, rfl, sd⟩
        rw [List.getElem?_map] at ev
        obtain ⟨p, ep, rfl⟩ := Option.map_eq_some_iff.mp ev
        have jl : j < ps.length := (List.getElem?_eq_some_iff.mp ep).1
        obtain ⟨e, ee⟩ : ∃ e, es[j]? = some e := ⟨_, List.getElem?_eq_getElem (by omega)⟩
        have eap := ((at_ j p e ep ee).same sc).same sd
        obtain ⟨wl, wp⟩ := ent_words (ok j e ee)
        walk_at "rd"
        refine ⟨rfl, ?_⟩
        walk_at "rd"
        refine ⟨p, e, es.take j, rfl, eap, ok j e ee, fun b He nb se hb => ?_⟩
        walk_at "rd"
        refine ⟨⟨_, SqL.of hb⟩, fun D nD => ?_⟩
        have ll : (linesE e).length ≤ 52 := by unfold linesE; rw [List.length_map]; exact wl
        have xl : ∀ x ∈ linesE e, x.length ≤ 12010 := fun x hx => by
          obtain ⟨ws, hw, rfl⟩ := List.mem_map.mp hx
          exact line_len (wp ws hw)
        have c : (Str.ofString "\n").length = 1 := by decide +kernel
        refine lc_it (walk_list (K := K) (a := b) (xs := (linesE e).map V.str)) (fun j H4 => H4 D = some (.lst (((linesE e).take j).map fun z => V.str (z ++ (Str.ofString "\n")))) ∧ Same He H4) ⟨upd_same, fun b u z => (upd_ne (ne_of_none z nD)).trans z⟩ (fun _ _ _ ⟨_, s3⟩ => SqL.of (s3 _ _ hb)) ?_ ?_
        · rintro j y H4 H5 hj ⟨hD, s3⟩ ⟨rfl, ey⟩
          rw [List.getElem?_map] at ey
          obtain ⟨x, ex, rfl⟩ := Option.map_eq_some_iff.mp ey
          rw [List.length_map] at hj
          have := xl x (List.mem_of_getElem? ex)
          refine ⟨rfl, ?_⟩
          walk_at "rd"
          refine ⟨by rw [c]; exact Nat.le_trans (by omega : _ ≤ 13000) (by decide), ?_⟩
          refine ⟨_, hD, ?_, ?_, fun b u z => (upd_ne (ne_of_none z nD)).trans (s3 _ _ z)⟩
          · rw [List.length_map, List.length_take]
            exact Nat.lt_of_le_of_lt (by omega : _ ≤ 1000) (by decide)
          · rw [List.take_succ, ex, List.map_append]
            exact upd_same
        rintro Hf ⟨hD, sf⟩
        rw [List.length_map, List.take_length] at hD
        walk_at "rd"
        have sm := StrLaws.sumLen_le (B := 12011) ((linesE e).map fun z => z ++ Str.ofString "\n") (fun y hy => by
          obtain ⟨z, hz, rfl⟩ := List.mem_map.mp hy
          have := xl z hz
          rw [Str.length_append, c]
          omega)
        rw [List.length_map] at sm
        have sm2 : (linesE e).length * 12011 ≤ 52 * 12011 := Nat.mul_le_mul_right _ ll
        have c0 : (Str.ofString "").length = 0 := by decide +kernel
        refine ⟨_, D, (linesE e).map (fun z => z ++ Str.ofString "\n"), rfl, rfl, .inl (SqL.of (by rw [List.map_map]; exact hD)), ?_, ?_⟩
        · rw [c0, Nat.mul_zero]
          omega
        have big : sizeLine = 16777216 := by decide +kernel
        have tk : es.take (j + 1) = es.take j ++ [e] := by rw [List.take_succ, ee]; rfl
        have al : ∀ k, (∀ ws ∈ allW (es.take k), LineP ws) ∧ (allW (es.take k)).length ≤ 520 := fun k => ⟨fun ws hw => LPs ws (by
          obtain ⟨x, hx, hw⟩ := List.mem_flatMap.mp hw
          exact List.mem_flatMap.mpr ⟨x, List.mem_of_mem_take hx, hw⟩), Nat.le_trans (take_len es k) l520⟩
        have lS := lines_sum (al (j + 1)).1 (al (j + 1)).2
        have ps1 : paperT (es.take j) ++ Txt.join (Str.ofString "") ((linesE e).map fun z => z ++ Str.ofString "\n") = paperT (es.take (j + 1)) := by rw [tk]; exact (paper_snoc _ _).symm
        walk_at "rd"
        refine ⟨?_, ?_⟩
        · rw [← Str.length_append, ps1]
          omega
        rw [ps1]
        exact ⟨_, _, _, _, rfl, (sd.trans se).trans sf⟩
      rintro st Hd ⟨y6, y7, y8, y9, rfl, sd⟩
      rw [List.length_map, lps, List.take_length]
      have Sd := Sc.of_same sd
      have ead := eac.same sd
      have ekd := ekc.same sd
      walk_at "rd"
      refine ⟨en, es, rfl, ead, ok, by omega, fun He se => ?_⟩
      have Se := Sd.of_same se
      have eae := ead.same se
      have eke := ekd.same se
      have sh := pap_shaped ok
      have ev := pap_eqv ok
      walk_at "rd"
      refine ⟨rfl, _, rfl, ?_⟩
      refine ite2 (fun z => absurd z (by simp)) (fun _ => ?_)
      walk_at "rd"
      refine ⟨_, _, dp_pap eae, dp_pap eke, sh, sh, ?_⟩
      rw [ev]
      refine ⟨_, rfl, ?_⟩
      refine ite2 (fun z => absurd z (by decide)) (fun _ => ?_)
      walk_at "rd"
      have lp := lines_sum LPs l520
      have big : sizeLine = 16777216 := by decide +kernel
      refine ⟨by omega, ?_⟩
      walk_at "rd"
      refine ⟨a, c, t1, paperT es, allW es, rfl, Se, by omega, by omega, paper_split LPs, LPs, l520, fun y Hf t2 y1 y2 y3 t2b Sf Of => ?_⟩
      have kf : ∀ {x : Addr} {o : HO}, He x = some o → x ≠ a → x ≠ c → Hf x = some o := fun h m1 m2 => Of _ _ h m1 m2
      have kt := TupK.oth Se Of
      have eaf : EntsAt Hf en es := by
        obtain ⟨ps, l1, l2, l3⟩ := eae
        exact ⟨ps, l1, Of _ _ l2 na nc, fun i p e x y => (l3 i p e x y).tk kt⟩
      refine ⟨(by show 3 ≤ sizeLine; decide), fun L nL => ?_⟩
      generalize e5 : upd Hf L _ = Hg
      have g5 : Hg L = some (.lst [.str (paperT es), .str (cutS (paperT es) none (some (-1))), .str y]) := by rw [← e5]; exact upd_same
      have s5 : Same Hf Hg := by rw [← e5]; exact fun b u z => (upd_ne (ne_of_none z nL)).trans z
      clear e5
      have Sg := Sf.of_same s5
      have eag := eaf.same s5
      have R1 := rd_paper ok e10
      have three : ∀ (j : Nat) (v : V), ([.str (paperT es), .str (cutS (paperT es) none (some (-1))), .str y] : List V)[j]? = some v → ∃ z, v = .str z ∧ RdP es z := by
        intro j v hv
        match j, hv with
        | 0, hv => exact ⟨_, (Option.some.inj hv).symm, R1⟩
        | 1, hv => exact ⟨_, (Option.some.inj hv).symm, rd_cut ok e10 e1⟩
        | 2, hv => exact ⟨_, (Option.some.inj hv).symm, y1, y2, goes_lines ok y3⟩
        | j + 3, hv => simp at hv
      refine ⟨L, rfl, ⟨_, SqL.of g5⟩, ?_⟩
      refine for_list (K := K) (a := L) (xs := [.str (paperT es), .str (cutS (paperT es) none (some (-1))), .str y]) (fun j st H' => ∃ (x8 x9 : Option V), st = [some (.ref l), some (.ref a), some (.int (0 + (i : Int))), some (.ref en), some (.ref kp), some (.str (paperT es)), y6, y7, x8, x9] ∧ Same Hg H') ⟨_, _, rfl, fun b u z => z⟩ (fun _ _ _ _ ⟨_, _, _, sm⟩ => SqL.of (sm _ _ g5)) ?_ ?_
      · rintro j v st Hh ev' ⟨y8', y9', rfl, sh'⟩
        obtain ⟨z, rfl, r1, r2, r3⟩ := three j v ev'
        walk_at "rd"
        refine ⟨z, es, rfl, r1, r2, r3, by omega, fun rd Hi nrd si er => ?_⟩
        have eai := (eag.same sh').same si
        walk_at "rd"
        refine ⟨_, _, dp_pap er, dp_pap eai, sh, sh, ?_⟩
        rw [ev]
        refine ⟨_, rfl, ?_⟩
        refine ite2 (fun z => absurd z (by decide)) (fun _ => ?_)
        obtain ⟨qs, lqs, hrd, _⟩ := id er
        walk_at "rd"
        refine ⟨.inl ⟨rfl, _, SqL.of hrd⟩, ?_⟩
        walk_at "rd"
        refine ⟨rd, _, _, rfl, rfl, hrd, ?_, ?_⟩
        · rw [List.length_map]
          exact Nat.lt_of_le_of_lt (by omega : _ ≤ 12) (by decide)
        exact ⟨_, _, rfl, fun b u h => (upd_ne (ne_of_none (sh' _ _ h) nrd)).trans (si _ _ (sh' _ _ h))⟩
      rintro st Hh ⟨y8', y9', rfl, sh'⟩
      obtain ⟨r1, r2, r3⟩ := R1
      walk_at "rd"
      refine ⟨paperT es, es, rfl, r1, r2, r3, by omega, fun rd Hi nrd si er => ?_⟩
      have eai := (eag.same sh').same si
      walk_at "rd"
      refine ⟨_, _, dp_pap er, dp_pap eai, sh, sh, ?_⟩
      rw [ev]
      refine ⟨_, rfl, ?_⟩
      refine ite2 (fun z => absurd z (by decide)) (fun _ => ?_)
      exact ⟨_, _, _, _, _, _, _, _, t2, rfl, (Sg.of_same sh').of_same si, by omega⟩
    rintro st Ha ⟨x2, x3, x4, x5, x6, x7, x8, x9, t, rfl, Sa, tb⟩
    walk_at "rd"
    refine ⟨(by show 0 ≤ sizeLine; decide), fun E1 nE1 => ?_⟩
    have ok0 : AllOk [] := fun i e h => by simp at h
    refine ⟨E1, [], rfl, ⟨[], rfl, upd_same, fun i p e h => by simp at h⟩, ok0, by decide, fun Hb sb => ?_⟩
    walk_at "rd"
    have p0 : paperT [] = Str.ofString "" := by decide +kernel
    refine ⟨rfl, _, rfl, ?_⟩
    refine ite2 (fun _ => ?_) (fun z => absurd (by rw [p0]; exact decide_eq_true rfl) z)
    walk_at "rd"
    obtain ⟨r1, r2, r3⟩ := rd_none ok0 (z := Str.ofString "") (by decide +kernel) (by decide +kernel) (by decide +kernel)
    refine ⟨Str.ofString "", [], rfl, r1, r2, r3, by decide, fun rd Hc nrd sc er => ?_⟩
    walk_at "rd"
    refine ⟨(by show 0 ≤ sizeLine; decide), fun E2 nE2 => ?_⟩
    refine ⟨papD [], .list [], dp_pap (er.same fun b u z => (upd_ne (ne_of_none z nE2)).trans z), .lst (SqL.of upd_same) .nil, pap_shaped ok0, by decide +kernel, ?_⟩
    refine ⟨_, rfl, ?_⟩
    refine ite2 (fun _ => ?_) (fun z => absurd (by decide +kernel) z)
    walk_at "rd"
    obtain ⟨r1, r2, r3⟩ := rd_none ok0 (z := Str.ofString "\n \n") (by decide +kernel) (by decide +kernel) (by decide +kernel)
    refine ⟨Str.ofString "\n \n", [], rfl, r1, r2, r3, by decide, fun rd' Hd nrd' sd er' => ?_⟩
    walk_at "rd"
    refine ⟨(by show 0 ≤ sizeLine; decide), fun E3 nE3 => ?_⟩
    refine ⟨papD [], .list [], dp_pap (er'.same fun b u z => (upd_ne (ne_of_none z nE3)).trans z), .lst (SqL.of upd_same) .nil, pap_shaped ok0, by decide +kernel, ?_⟩
    have fin : PyData.eqv (papD []) (.list []) = true := by decide +kernel
    rw [fin]
    exact q _
end
end HT
namespace HT
open PySem L2 TL CwR
/-- what is looked up of an own class -/
def clsB (K : PySem.W.Frag) (C : Addr) : Bool := PySem.W.plainGet K C Str.empty && (PySem.W.hasDictIn K C && (PySem.W.plainOver K C && decide (PySem.W.findIn K (.ref C) "__setattr__" = some (some (.builtin "object.__setattr__")))))
theorem clsB_ok {K : PySem.W.Frag} {C : Addr} (h : clsB K C = true) : Cls K C := by
  unfold clsB at h
  simp only [Bool.and_eq_true, decide_eq_true_eq] at h
  obtain ⟨a, b, c, d⟩ := h
  exact ⟨a, b, c, d⟩
theorem all_mk {l : PySem.W.OpenLaw} {w : World} {K : PySem.W.Frag} {h : Heap} {mg : Str → Option Value} {fa aM aN aD f_is_int f_is_int_between f_check_value f_check_side f_is_side f_text_of f_check_style f_grouped f_mark f_read_text f_past_whole f_past_groups f_past_places f_past_digits f_known_entries f_is_formed f_are_lines f_names_fit f_is_name f_is_known f_is_in_set f_worths_fit f_text_fits f_paper_text f_lines_of f_side_line f_read_paper f_entry_of f_side_entry_of f_is_number f_L_source f_L_draw f_L_pick f_L_great f_L_ten f_L_step f_L_side f_L_text f_L_entries f_L_lines f_L_loose f_law cR fR_init fR_fault fR_entry fR_within fR_end fR_add : Addr} (X : K.In h) (G : h.Ns mainGlobals mg) (hfa : mg "law" = some (.ref fa))
    {odM odN od_is_int an_is_int od_is_int_between an_is_int_between od_check_value an_check_value od_check_side an_check_side od_is_side an_is_side od_text_of an_text_of od_check_style an_check_style od_grouped an_grouped od_mark an_mark od_read_text an_read_text od_past_whole an_past_whole od_past_groups an_past_groups od_past_places an_past_places od_past_digits an_past_digits od_known_entries an_known_entries od_is_formed an_is_formed od_are_lines an_are_lines od_names_fit an_names_fit od_is_name an_is_name od_is_known an_is_known od_is_in_set an_is_in_set od_worths_fit an_worths_fit od_text_fits an_text_fits od_paper_text an_paper_text od_lines_of an_lines_of od_side_line an_side_line od_read_paper an_read_paper od_entry_of an_entry_of od_side_entry_of an_side_entry_of od_is_number an_is_number od_L_source an_L_source od_L_draw an_L_draw od_L_pick an_L_pick od_L_great an_L_great od_L_ten an_L_ten od_L_step an_L_step od_L_side an_L_side od_L_text an_L_text od_L_entries an_L_entries od_L_lines an_L_lines od_L_loose an_L_loose od_law an_law odRinit anRinit odRfault anRfault odRentry anRentry odRwithin anRwithin odRend anRend odRadd anRadd : Option Addr} {slM slN sl_is_int sl_is_int_between sl_check_value sl_check_side sl_is_side sl_text_of sl_check_style sl_grouped sl_mark sl_read_text sl_past_whole sl_past_groups sl_past_places sl_past_digits sl_known_entries sl_is_formed sl_are_lines sl_names_fit sl_is_name sl_is_known sl_is_in_set sl_worths_fit sl_text_fits sl_paper_text sl_lines_of sl_side_line sl_read_paper sl_entry_of sl_side_entry_of sl_is_number sl_L_source sl_L_draw sl_L_pick sl_L_great sl_L_ten sl_L_step sl_L_side sl_L_text sl_L_entries sl_L_lines sl_L_loose sl_law slRinit slRfault slRentry slRwithin slRend slRadd : Array (Option Value)} {nM nN : Nat} {itsM itsN : Array Value} {tP tW tD tL tML tMS tSN tMD : Tok} {oc_is_int kV_is_int dc_is_int pm_is_int cd_is_int ct_is_int oc_is_int_between kV_is_int_between dc_is_int_between pm_is_int_between cd_is_int_between ct_is_int_between oc_check_value kV_check_value dc_check_value pm_check_value cd_check_value ct_check_value oc_check_side kV_check_side dc_check_side pm_check_side cd_check_side ct_check_side oc_is_side kV_is_side dc_is_side pm_is_side cd_is_side ct_is_side oc_text_of dc_text_of pm_text_of cd_text_of ct_text_of oc_check_style kV_check_style dc_check_style pm_check_style cd_check_style ct_check_style oc_grouped kV_grouped dc_grouped pm_grouped cd_grouped ct_grouped oc_mark kV_mark dc_mark pm_mark cd_mark ct_mark oc_read_text kV_read_text dc_read_text pm_read_text cd_read_text ct_read_text oc_past_whole kV_past_whole dc_past_whole pm_past_whole cd_past_whole ct_past_whole oc_past_groups kV_past_groups dc_past_groups pm_past_groups cd_past_groups ct_past_groups oc_past_places kV_past_places dc_past_places pm_past_places cd_past_places ct_past_places oc_past_digits kV_past_digits dc_past_digits pm_past_digits cd_past_digits ct_past_digits oc_known_entries kV_known_entries dc_known_entries pm_known_entries cd_known_entries ct_known_entries oc_is_formed kV_is_formed dc_is_formed pm_is_formed cd_is_formed ct_is_formed oc_are_lines kV_are_lines dc_are_lines pm_are_lines cd_are_lines ct_are_lines oc_names_fit kV_names_fit dc_names_fit pm_names_fit cd_names_fit ct_names_fit oc_is_name kV_is_name dc_is_name pm_is_name cd_is_name ct_is_name oc_is_known kV_is_known dc_is_known pm_is_known cd_is_known ct_is_known oc_is_in_set kV_is_in_set dc_is_in_set pm_is_in_set cd_is_in_set ct_is_in_set oc_worths_fit kV_worths_fit dc_worths_fit pm_worths_fit cd_worths_fit ct_worths_fit oc_text_fits kV_text_fits dc_text_fits pm_text_fits cd_text_fits ct_text_fits oc_paper_text kV_paper_text dc_paper_text pm_paper_text cd_paper_text ct_paper_text oc_lines_of kV_lines_of dc_lines_of pm_lines_of cd_lines_of ct_lines_of oc_side_line kV_side_line dc_side_line pm_side_line cd_side_line ct_side_line oc_read_paper kV_read_paper dc_read_paper pm_read_paper cd_read_paper ct_read_paper oc_entry_of kV_entry_of dc_entry_of pm_entry_of cd_entry_of ct_entry_of oc_side_entry_of kV_side_entry_of dc_side_entry_of pm_side_entry_of cd_side_entry_of ct_side_entry_of oc_is_number kV_is_number dc_is_number pm_is_number cd_is_number ct_is_number oc_L_source kV_L_source dc_L_source pm_L_source cd_L_source ct_L_source oc_L_draw kV_L_draw dc_L_draw pm_L_draw cd_L_draw ct_L_draw oc_L_pick kV_L_pick dc_L_pick pm_L_pick cd_L_pick ct_L_pick oc_L_great kV_L_great dc_L_great pm_L_great cd_L_great ct_L_great oc_L_ten kV_L_ten dc_L_ten pm_L_ten cd_L_ten ct_L_ten oc_L_step kV_L_step dc_L_step pm_L_step cd_L_step ct_L_step oc_L_side kV_L_side dc_L_side pm_L_side cd_L_side ct_L_side oc_L_text kV_L_text dc_L_text pm_L_text cd_L_text ct_L_text oc_L_entries kV_L_entries dc_L_entries pm_L_entries cd_L_entries ct_L_entries oc_L_lines kV_L_lines dc_L_lines pm_L_lines cd_L_lines ct_L_lines oc_L_loose kV_L_loose dc_L_loose pm_L_loose cd_L_loose ct_L_loose oc_law kV_law dc_law pm_law cd_law ct_law u_sign u_group u_width ocRinit kVRinit dcRinit pmRinit cdRinit ctRinit ocRfault kVRfault dcRfault pmRfault cdRfault ctRfault ocRentry kVRentry dcRentry pmRentry cdRentry ctRentry ocRwithin kVRwithin dcRwithin pmRwithin cdRwithin ctRwithin ocRend kVRend dcRend pmRend cdRend ctRend ocRadd kVRadd dcRadd pmRadd cdRadd ctRadd : Value}
    (a_is_int : PySem.W.nsIn K mainGlobals "is_int" = some (some (.ref f_is_int)))
    (l_is_int : K.lookup f_is_int = some ⟨oc_is_int, od_is_int, .func (PySem.W.fnOf "is_int" "is_int" (defArgs s_is_int) (defBody s_is_int) (defScope s_is_int) .none kV_is_int dc_is_int pm_is_int an_is_int cd_is_int ct_is_int), sl_is_int⟩)
    (c_is_int : PySem.W.codeIn K cd_is_int "is_int" = true) (k_is_int : PySem.W.keepIn K (.ref f_is_int) = true)
    (a_is_int_between : PySem.W.nsIn K mainGlobals "is_int_between" = some (some (.ref f_is_int_between)))
    (l_is_int_between : K.lookup f_is_int_between = some ⟨oc_is_int_between, od_is_int_between, .func (PySem.W.fnOf "is_int_between" "is_int_between" (defArgs s_is_int_between) (defBody s_is_int_between) (defScope s_is_int_between) .none kV_is_int_between dc_is_int_between pm_is_int_between an_is_int_between cd_is_int_between ct_is_int_between), sl_is_int_between⟩)
    (c_is_int_between : PySem.W.codeIn K cd_is_int_between "is_int_between" = true) (k_is_int_between : PySem.W.keepIn K (.ref f_is_int_between) = true)
    (a_check_value : PySem.W.nsIn K mainGlobals "check_value" = some (some (.ref f_check_value)))
    (l_check_value : K.lookup f_check_value = some ⟨oc_check_value, od_check_value, .func (PySem.W.fnOf "check_value" "check_value" (defArgs s_check_value) (defBody s_check_value) (defScope s_check_value) .none kV_check_value dc_check_value pm_check_value an_check_value cd_check_value ct_check_value), sl_check_value⟩)
    (c_check_value : PySem.W.codeIn K cd_check_value "check_value" = true) (k_check_value : PySem.W.keepIn K (.ref f_check_value) = true)
    (a_check_side : PySem.W.nsIn K mainGlobals "check_side" = some (some (.ref f_check_side)))
    (l_check_side : K.lookup f_check_side = some ⟨oc_check_side, od_check_side, .func (PySem.W.fnOf "check_side" "check_side" (defArgs s_check_side) (defBody s_check_side) (defScope s_check_side) .none kV_check_side dc_check_side pm_check_side an_check_side cd_check_side ct_check_side), sl_check_side⟩)
    (c_check_side : PySem.W.codeIn K cd_check_side "check_side" = true) (k_check_side : PySem.W.keepIn K (.ref f_check_side) = true)
    (a_is_side : PySem.W.nsIn K mainGlobals "is_side" = some (some (.ref f_is_side)))
    (l_is_side : K.lookup f_is_side = some ⟨oc_is_side, od_is_side, .func (PySem.W.fnOf "is_side" "is_side" (defArgs s_is_side) (defBody s_is_side) (defScope s_is_side) .none kV_is_side dc_is_side pm_is_side an_is_side cd_is_side ct_is_side), sl_is_side⟩)
    (c_is_side : PySem.W.codeIn K cd_is_side "is_side" = true) (k_is_side : PySem.W.keepIn K (.ref f_is_side) = true)
    (a_text_of : PySem.W.nsIn K mainGlobals "text_of" = some (some (.ref f_text_of)))
    (l_text_of : K.lookup f_text_of = some ⟨oc_text_of, od_text_of, .func (PySem.W.fnOf "text_of" "text_of" (defArgs s_text_of) (defBody s_text_of) (defScope s_text_of) .none (.ref aD) dc_text_of pm_text_of an_text_of cd_text_of ct_text_of), sl_text_of⟩)
    (c_text_of : PySem.W.codeIn K cd_text_of "text_of" = true) (k_text_of : PySem.W.keepIn K (.ref f_text_of) = true)
    (a_check_style : PySem.W.nsIn K mainGlobals "_check_style" = some (some (.ref f_check_style)))
    (l_check_style : K.lookup f_check_style = some ⟨oc_check_style, od_check_style, .func (PySem.W.fnOf "_check_style" "_check_style" (defArgs s_check_style) (defBody s_check_style) (defScope s_check_style) .none kV_check_style dc_check_style pm_check_style an_check_style cd_check_style ct_check_style), sl_check_style⟩)
    (c_check_style : PySem.W.codeIn K cd_check_style "_check_style" = true) (k_check_style : PySem.W.keepIn K (.ref f_check_style) = true)
    (a_grouped : PySem.W.nsIn K mainGlobals "_grouped" = some (some (.ref f_grouped)))
    (l_grouped : K.lookup f_grouped = some ⟨oc_grouped, od_grouped, .func (PySem.W.fnOf "_grouped" "_grouped" (defArgs s_grouped) (defBody s_grouped) (defScope s_grouped) .none kV_grouped dc_grouped pm_grouped an_grouped cd_grouped ct_grouped), sl_grouped⟩)
    (c_grouped : PySem.W.codeIn K cd_grouped "_grouped" = true) (k_grouped : PySem.W.keepIn K (.ref f_grouped) = true)
    (a_mark : PySem.W.nsIn K mainGlobals "_mark" = some (some (.ref f_mark)))
    (l_mark : K.lookup f_mark = some ⟨oc_mark, od_mark, .func (PySem.W.fnOf "_mark" "_mark" (defArgs s_mark) (defBody s_mark) (defScope s_mark) .none kV_mark dc_mark pm_mark an_mark cd_mark ct_mark), sl_mark⟩)
    (c_mark : PySem.W.codeIn K cd_mark "_mark" = true) (k_mark : PySem.W.keepIn K (.ref f_mark) = true)
    (a_read_text : PySem.W.nsIn K mainGlobals "read_text" = some (some (.ref f_read_text)))
    (l_read_text : K.lookup f_read_text = some ⟨oc_read_text, od_read_text, .func (PySem.W.fnOf "read_text" "read_text" (defArgs s_read_text) (defBody s_read_text) (defScope s_read_text) .none kV_read_text dc_read_text pm_read_text an_read_text cd_read_text ct_read_text), sl_read_text⟩)
    (c_read_text : PySem.W.codeIn K cd_read_text "read_text" = true) (k_read_text : PySem.W.keepIn K (.ref f_read_text) = true)
    (a_past_whole : PySem.W.nsIn K mainGlobals "_past_whole" = some (some (.ref f_past_whole)))
    (l_past_whole : K.lookup f_past_whole = some ⟨oc_past_whole, od_past_whole, .func (PySem.W.fnOf "_past_whole" "_past_whole" (defArgs s_past_whole) (defBody s_past_whole) (defScope s_past_whole) .none kV_past_whole dc_past_whole pm_past_whole an_past_whole cd_past_whole ct_past_whole), sl_past_whole⟩)
    (c_past_whole : PySem.W.codeIn K cd_past_whole "_past_whole" = true) (k_past_whole : PySem.W.keepIn K (.ref f_past_whole) = true)
    (a_past_groups : PySem.W.nsIn K mainGlobals "_past_groups" = some (some (.ref f_past_groups)))
    (l_past_groups : K.lookup f_past_groups = some ⟨oc_past_groups, od_past_groups, .func (PySem.W.fnOf "_past_groups" "_past_groups" (defArgs s_past_groups) (defBody s_past_groups) (defScope s_past_groups) .none kV_past_groups dc_past_groups pm_past_groups an_past_groups cd_past_groups ct_past_groups), sl_past_groups⟩)
    (c_past_groups : PySem.W.codeIn K cd_past_groups "_past_groups" = true) (k_past_groups : PySem.W.keepIn K (.ref f_past_groups) = true)
    (a_past_places : PySem.W.nsIn K mainGlobals "_past_places" = some (some (.ref f_past_places)))
    (l_past_places : K.lookup f_past_places = some ⟨oc_past_places, od_past_places, .func (PySem.W.fnOf "_past_places" "_past_places" (defArgs s_past_places) (defBody s_past_places) (defScope s_past_places) .none kV_past_places dc_past_places pm_past_places an_past_places cd_past_places ct_past_places), sl_past_places⟩)
    (c_past_places : PySem.W.codeIn K cd_past_places "_past_places" = true) (k_past_places : PySem.W.keepIn K (.ref f_past_places) = true)
    (a_past_digits : PySem.W.nsIn K mainGlobals "_past_digits" = some (some (.ref f_past_digits)))
    (l_past_digits : K.lookup f_past_digits = some ⟨oc_past_digits, od_past_digits, .func (PySem.W.fnOf "_past_digits" "_past_digits" (defArgs s_past_digits) (defBody s_past_digits) (defScope s_past_digits) .none kV_past_digits dc_past_digits pm_past_digits an_past_digits cd_past_digits ct_past_digits), sl_past_digits⟩)
    (c_past_digits : PySem.W.codeIn K cd_past_digits "_past_digits" = true) (k_past_digits : PySem.W.keepIn K (.ref f_past_digits) = true)
    (a_known_entries : PySem.W.nsIn K mainGlobals "known_entries" = some (some (.ref f_known_entries)))
    (l_known_entries : K.lookup f_known_entries = some ⟨oc_known_entries, od_known_entries, .func (PySem.W.fnOf "known_entries" "known_entries" (defArgs s_known_entries) (defBody s_known_entries) (defScope s_known_entries) .none kV_known_entries dc_known_entries pm_known_entries an_known_entries cd_known_entries ct_known_entries), sl_known_entries⟩)
    (c_known_entries : PySem.W.codeIn K cd_known_entries "known_entries" = true) (k_known_entries : PySem.W.keepIn K (.ref f_known_entries) = true)
    (a_is_formed : PySem.W.nsIn K mainGlobals "_is_formed" = some (some (.ref f_is_formed)))
    (l_is_formed : K.lookup f_is_formed = some ⟨oc_is_formed, od_is_formed, .func (PySem.W.fnOf "_is_formed" "_is_formed" (defArgs s_is_formed) (defBody s_is_formed) (defScope s_is_formed) .none kV_is_formed dc_is_formed pm_is_formed an_is_formed cd_is_formed ct_is_formed), sl_is_formed⟩)
    (c_is_formed : PySem.W.codeIn K cd_is_formed "_is_formed" = true) (k_is_formed : PySem.W.keepIn K (.ref f_is_formed) = true)
    (a_are_lines : PySem.W.nsIn K mainGlobals "_are_lines" = some (some (.ref f_are_lines)))
    (l_are_lines : K.lookup f_are_lines = some ⟨oc_are_lines, od_are_lines, .func (PySem.W.fnOf "_are_lines" "_are_lines" (defArgs s_are_lines) (defBody s_are_lines) (defScope s_are_lines) .none kV_are_lines dc_are_lines pm_are_lines an_are_lines cd_are_lines ct_are_lines), sl_are_lines⟩)
    (c_are_lines : PySem.W.codeIn K cd_are_lines "_are_lines" = true) (k_are_lines : PySem.W.keepIn K (.ref f_are_lines) = true)
    (a_names_fit : PySem.W.nsIn K mainGlobals "names_fit" = some (some (.ref f_names_fit)))
    (l_names_fit : K.lookup f_names_fit = some ⟨oc_names_fit, od_names_fit, .func (PySem.W.fnOf "names_fit" "names_fit" (defArgs s_names_fit) (defBody s_names_fit) (defScope s_names_fit) .none kV_names_fit dc_names_fit pm_names_fit an_names_fit cd_names_fit ct_names_fit), sl_names_fit⟩)
    (c_names_fit : PySem.W.codeIn K cd_names_fit "names_fit" = true) (k_names_fit : PySem.W.keepIn K (.ref f_names_fit) = true)
    (a_is_name : PySem.W.nsIn K mainGlobals "_is_name" = some (some (.ref f_is_name)))
    (l_is_name : K.lookup f_is_name = some ⟨oc_is_name, od_is_name, .func (PySem.W.fnOf "_is_name" "_is_name" (defArgs s_is_name) (defBody s_is_name) (defScope s_is_name) .none kV_is_name dc_is_name pm_is_name an_is_name cd_is_name ct_is_name), sl_is_name⟩)
    (c_is_name : PySem.W.codeIn K cd_is_name "_is_name" = true) (k_is_name : PySem.W.keepIn K (.ref f_is_name) = true)
    (a_is_known : PySem.W.nsIn K mainGlobals "is_known" = some (some (.ref f_is_known)))
    (l_is_known : K.lookup f_is_known = some ⟨oc_is_known, od_is_known, .func (PySem.W.fnOf "is_known" "is_known" (defArgs s_is_known) (defBody s_is_known) (defScope s_is_known) .none kV_is_known dc_is_known pm_is_known an_is_known cd_is_known ct_is_known), sl_is_known⟩)
    (c_is_known : PySem.W.codeIn K cd_is_known "is_known" = true) (k_is_known : PySem.W.keepIn K (.ref f_is_known) = true)
    (a_is_in_set : PySem.W.nsIn K mainGlobals "is_in_set" = some (some (.ref f_is_in_set)))
    (l_is_in_set : K.lookup f_is_in_set = some ⟨oc_is_in_set, od_is_in_set, .func (PySem.W.fnOf "is_in_set" "is_in_set" (defArgs s_is_in_set) (defBody s_is_in_set) (defScope s_is_in_set) .none kV_is_in_set dc_is_in_set pm_is_in_set an_is_in_set cd_is_in_set ct_is_in_set), sl_is_in_set⟩)
    (c_is_in_set : PySem.W.codeIn K cd_is_in_set "is_in_set" = true) (k_is_in_set : PySem.W.keepIn K (.ref f_is_in_set) = true)
    (a_worths_fit : PySem.W.nsIn K mainGlobals "worths_fit" = some (some (.ref f_worths_fit)))
    (l_worths_fit : K.lookup f_worths_fit = some ⟨oc_worths_fit, od_worths_fit, .func (PySem.W.fnOf "worths_fit" "worths_fit" (defArgs s_worths_fit) (defBody s_worths_fit) (defScope s_worths_fit) .none kV_worths_fit dc_worths_fit pm_worths_fit an_worths_fit cd_worths_fit ct_worths_fit), sl_worths_fit⟩)
    (c_worths_fit : PySem.W.codeIn K cd_worths_fit "worths_fit" = true) (k_worths_fit : PySem.W.keepIn K (.ref f_worths_fit) = true)
    (a_text_fits : PySem.W.nsIn K mainGlobals "text_fits" = some (some (.ref f_text_fits)))
    (l_text_fits : K.lookup f_text_fits = some ⟨oc_text_fits, od_text_fits, .func (PySem.W.fnOf "text_fits" "text_fits" (defArgs s_text_fits) (defBody s_text_fits) (defScope s_text_fits) .none kV_text_fits dc_text_fits pm_text_fits an_text_fits cd_text_fits ct_text_fits), sl_text_fits⟩)
    (c_text_fits : PySem.W.codeIn K cd_text_fits "text_fits" = true) (k_text_fits : PySem.W.keepIn K (.ref f_text_fits) = true)
    (a_paper_text : PySem.W.nsIn K mainGlobals "paper_text" = some (some (.ref f_paper_text)))
    (l_paper_text : K.lookup f_paper_text = some ⟨oc_paper_text, od_paper_text, .func (PySem.W.fnOf "paper_text" "paper_text" (defArgs s_paper_text) (defBody s_paper_text) (defScope s_paper_text) .none kV_paper_text dc_paper_text pm_paper_text an_paper_text cd_paper_text ct_paper_text), sl_paper_text⟩)
    (c_paper_text : PySem.W.codeIn K cd_paper_text "paper_text" = true) (k_paper_text : PySem.W.keepIn K (.ref f_paper_text) = true)
    (a_lines_of : PySem.W.nsIn K mainGlobals "_lines_of" = some (some (.ref f_lines_of)))
    (l_lines_of : K.lookup f_lines_of = some ⟨oc_lines_of, od_lines_of, .func (PySem.W.fnOf "_lines_of" "_lines_of" (defArgs s_lines_of) (defBody s_lines_of) (defScope s_lines_of) .none kV_lines_of dc_lines_of pm_lines_of an_lines_of cd_lines_of ct_lines_of), sl_lines_of⟩)
    (c_lines_of : PySem.W.codeIn K cd_lines_of "_lines_of" = true) (k_lines_of : PySem.W.keepIn K (.ref f_lines_of) = true)
    (a_side_line : PySem.W.nsIn K mainGlobals "_side_line" = some (some (.ref f_side_line)))
    (l_side_line : K.lookup f_side_line = some ⟨oc_side_line, od_side_line, .func (PySem.W.fnOf "_side_line" "_side_line" (defArgs s_side_line) (defBody s_side_line) (defScope s_side_line) .none kV_side_line dc_side_line pm_side_line an_side_line cd_side_line ct_side_line), sl_side_line⟩)
    (c_side_line : PySem.W.codeIn K cd_side_line "_side_line" = true) (k_side_line : PySem.W.keepIn K (.ref f_side_line) = true)
    (a_read_paper : PySem.W.nsIn K mainGlobals "read_paper" = some (some (.ref f_read_paper)))
    (l_read_paper : K.lookup f_read_paper = some ⟨oc_read_paper, od_read_paper, .func (PySem.W.fnOf "read_paper" "read_paper" (defArgs s_read_paper) (defBody s_read_paper) (defScope s_read_paper) .none kV_read_paper dc_read_paper pm_read_paper an_read_paper cd_read_paper ct_read_paper), sl_read_paper⟩)
    (c_read_paper : PySem.W.codeIn K cd_read_paper "read_paper" = true) (k_read_paper : PySem.W.keepIn K (.ref f_read_paper) = true)
    (a_entry_of : PySem.W.nsIn K mainGlobals "_entry_of" = some (some (.ref f_entry_of)))
    (l_entry_of : K.lookup f_entry_of = some ⟨oc_entry_of, od_entry_of, .func (PySem.W.fnOf "_entry_of" "_entry_of" (defArgs s_entry_of) (defBody s_entry_of) (defScope s_entry_of) .none kV_entry_of dc_entry_of pm_entry_of an_entry_of cd_entry_of ct_entry_of), sl_entry_of⟩)
    (c_entry_of : PySem.W.codeIn K cd_entry_of "_entry_of" = true) (k_entry_of : PySem.W.keepIn K (.ref f_entry_of) = true)
    (a_side_entry_of : PySem.W.nsIn K mainGlobals "_side_entry_of" = some (some (.ref f_side_entry_of)))
    (l_side_entry_of : K.lookup f_side_entry_of = some ⟨oc_side_entry_of, od_side_entry_of, .func (PySem.W.fnOf "_side_entry_of" "_side_entry_of" (defArgs s_side_entry_of) (defBody s_side_entry_of) (defScope s_side_entry_of) .none kV_side_entry_of dc_side_entry_of pm_side_entry_of an_side_entry_of cd_side_entry_of ct_side_entry_of), sl_side_entry_of⟩)
    (c_side_entry_of : PySem.W.codeIn K cd_side_entry_of "_side_entry_of" = true) (k_side_entry_of : PySem.W.keepIn K (.ref f_side_entry_of) = true)
    (a_is_number : PySem.W.nsIn K mainGlobals "_is_number" = some (some (.ref f_is_number)))
    (l_is_number : K.lookup f_is_number = some ⟨oc_is_number, od_is_number, .func (PySem.W.fnOf "_is_number" "_is_number" (defArgs s_is_number) (defBody s_is_number) (defScope s_is_number) .none kV_is_number dc_is_number pm_is_number an_is_number cd_is_number ct_is_number), sl_is_number⟩)
    (c_is_number : PySem.W.codeIn K cd_is_number "_is_number" = true) (k_is_number : PySem.W.keepIn K (.ref f_is_number) = true)
    (a_L_source : PySem.W.nsIn K mainGlobals "_law_source" = some (some (.ref f_L_source)))
    (l_L_source : K.lookup f_L_source = some ⟨oc_L_source, od_L_source, .func (PySem.W.fnOf "_law_source" "_law_source" (defArgs s_L_source) (defBody s_L_source) (defScope s_L_source) .none kV_L_source dc_L_source pm_L_source an_L_source cd_L_source ct_L_source), sl_L_source⟩)
    (c_L_source : PySem.W.codeIn K cd_L_source "_law_source" = true) (k_L_source : PySem.W.keepIn K (.ref f_L_source) = true)
    (a_L_draw : PySem.W.nsIn K mainGlobals "_law_draw" = some (some (.ref f_L_draw)))
    (l_L_draw : K.lookup f_L_draw = some ⟨oc_L_draw, od_L_draw, .func (PySem.W.fnOf "_law_draw" "_law_draw" (defArgs s_L_draw) (defBody s_L_draw) (defScope s_L_draw) .none kV_L_draw dc_L_draw pm_L_draw an_L_draw cd_L_draw ct_L_draw), sl_L_draw⟩)
    (c_L_draw : PySem.W.codeIn K cd_L_draw "_law_draw" = true) (k_L_draw : PySem.W.keepIn K (.ref f_L_draw) = true)
    (a_L_pick : PySem.W.nsIn K mainGlobals "_law_pick" = some (some (.ref f_L_pick)))
    (l_L_pick : K.lookup f_L_pick = some ⟨oc_L_pick, od_L_pick, .func (PySem.W.fnOf "_law_pick" "_law_pick" (defArgs s_L_pick) (defBody s_L_pick) (defScope s_L_pick) .none kV_L_pick dc_L_pick pm_L_pick an_L_pick cd_L_pick ct_L_pick), sl_L_pick⟩)
    (c_L_pick : PySem.W.codeIn K cd_L_pick "_law_pick" = true) (k_L_pick : PySem.W.keepIn K (.ref f_L_pick) = true)
    (a_L_great : PySem.W.nsIn K mainGlobals "_law_great" = some (some (.ref f_L_great)))
    (l_L_great : K.lookup f_L_great = some ⟨oc_L_great, od_L_great, .func (PySem.W.fnOf "_law_great" "_law_great" (defArgs s_L_great) (defBody s_L_great) (defScope s_L_great) .none kV_L_great dc_L_great pm_L_great an_L_great cd_L_great ct_L_great), sl_L_great⟩)
    (c_L_great : PySem.W.codeIn K cd_L_great "_law_great" = true) (k_L_great : PySem.W.keepIn K (.ref f_L_great) = true)
    (a_L_ten : PySem.W.nsIn K mainGlobals "_law_ten" = some (some (.ref f_L_ten)))
    (l_L_ten : K.lookup f_L_ten = some ⟨oc_L_ten, od_L_ten, .func (PySem.W.fnOf "_law_ten" "_law_ten" (defArgs s_L_ten) (defBody s_L_ten) (defScope s_L_ten) .none kV_L_ten dc_L_ten pm_L_ten an_L_ten cd_L_ten ct_L_ten), sl_L_ten⟩)
    (c_L_ten : PySem.W.codeIn K cd_L_ten "_law_ten" = true) (k_L_ten : PySem.W.keepIn K (.ref f_L_ten) = true)
    (a_L_step : PySem.W.nsIn K mainGlobals "_law_step" = some (some (.ref f_L_step)))
    (l_L_step : K.lookup f_L_step = some ⟨oc_L_step, od_L_step, .func (PySem.W.fnOf "_law_step" "_law_step" (defArgs s_L_step) (defBody s_L_step) (defScope s_L_step) .none kV_L_step dc_L_step pm_L_step an_L_step cd_L_step ct_L_step), sl_L_step⟩)
    (c_L_step : PySem.W.codeIn K cd_L_step "_law_step" = true) (k_L_step : PySem.W.keepIn K (.ref f_L_step) = true)
    (a_L_side : PySem.W.nsIn K mainGlobals "_law_side" = some (some (.ref f_L_side)))
    (l_L_side : K.lookup f_L_side = some ⟨oc_L_side, od_L_side, .func (PySem.W.fnOf "_law_side" "_law_side" (defArgs s_L_side) (defBody s_L_side) (defScope s_L_side) .none kV_L_side dc_L_side pm_L_side an_L_side cd_L_side ct_L_side), sl_L_side⟩)
    (c_L_side : PySem.W.codeIn K cd_L_side "_law_side" = true) (k_L_side : PySem.W.keepIn K (.ref f_L_side) = true)
    (a_L_text : PySem.W.nsIn K mainGlobals "_law_text" = some (some (.ref f_L_text)))
    (l_L_text : K.lookup f_L_text = some ⟨oc_L_text, od_L_text, .func (PySem.W.fnOf "_law_text" "_law_text" (defArgs s_L_text) (defBody s_L_text) (defScope s_L_text) .none kV_L_text dc_L_text pm_L_text an_L_text cd_L_text ct_L_text), sl_L_text⟩)
    (c_L_text : PySem.W.codeIn K cd_L_text "_law_text" = true) (k_L_text : PySem.W.keepIn K (.ref f_L_text) = true)
    (a_L_entries : PySem.W.nsIn K mainGlobals "_law_entries" = some (some (.ref f_L_entries)))
    (l_L_entries : K.lookup f_L_entries = some ⟨oc_L_entries, od_L_entries, .func (PySem.W.fnOf "_law_entries" "_law_entries" (defArgs s_L_entries) (defBody s_L_entries) (defScope s_L_entries) .none kV_L_entries dc_L_entries pm_L_entries an_L_entries cd_L_entries ct_L_entries), sl_L_entries⟩)
    (c_L_entries : PySem.W.codeIn K cd_L_entries "_law_entries" = true) (k_L_entries : PySem.W.keepIn K (.ref f_L_entries) = true)
    (a_L_lines : PySem.W.nsIn K mainGlobals "_law_lines" = some (some (.ref f_L_lines)))
    (l_L_lines : K.lookup f_L_lines = some ⟨oc_L_lines, od_L_lines, .func (PySem.W.fnOf "_law_lines" "_law_lines" (defArgs s_L_lines) (defBody s_L_lines) (defScope s_L_lines) .none kV_L_lines dc_L_lines pm_L_lines an_L_lines cd_L_lines ct_L_lines), sl_L_lines⟩)
    (c_L_lines : PySem.W.codeIn K cd_L_lines "_law_lines" = true) (k_L_lines : PySem.W.keepIn K (.ref f_L_lines) = true)
    (a_L_loose : PySem.W.nsIn K mainGlobals "_law_loose" = some (some (.ref f_L_loose)))
    (l_L_loose : K.lookup f_L_loose = some ⟨oc_L_loose, od_L_loose, .func (PySem.W.fnOf "_law_loose" "_law_loose" (defArgs s_L_loose) (defBody s_L_loose) (defScope s_L_loose) .none kV_L_loose dc_L_loose pm_L_loose an_L_loose cd_L_loose ct_L_loose), sl_L_loose⟩)
    (c_L_loose : PySem.W.codeIn K cd_L_loose "_law_loose" = true) (k_L_loose : PySem.W.keepIn K (.ref f_L_loose) = true)
    (a_law : PySem.W.nsIn K mainGlobals "law" = some (some (.ref f_law)))
    (l_law : K.lookup f_law = some ⟨oc_law, od_law, .func (PySem.W.fnOf "law" "law" (defArgs s_law) (defBody s_law) (defScope s_law) .none kV_law dc_law pm_law an_law cd_law ct_law), sl_law⟩)
    (c_law : PySem.W.codeIn K cd_law "law" = true) (k_law : PySem.W.keepIn K (.ref f_law) = true)
    (z_isinstance : PySem.W.nsIn K mainGlobals "isinstance" = some none)
    (z_int : PySem.W.nsIn K mainGlobals "int" = some none)
    (z_bool : PySem.W.nsIn K mainGlobals "bool" = some none)
    (z_len : PySem.W.nsIn K mainGlobals "len" = some none)
    (z_str : PySem.W.nsIn K mainGlobals "str" = some none)
    (z_abs : PySem.W.nsIn K mainGlobals "abs" = some none)
    (z_range : PySem.W.nsIn K mainGlobals "range" = some none)
    (z_max : PySem.W.nsIn K mainGlobals "max" = some none)
    (z_min : PySem.W.nsIn K mainGlobals "min" = some none)
    (z_tuple : PySem.W.nsIn K mainGlobals "tuple" = some none)
    (z_divmod : PySem.W.nsIn K mainGlobals "divmod" = some none)
    (z_list : PySem.W.nsIn K mainGlobals "list" = some none)
    (z_all : PySem.W.nsIn K mainGlobals "all" = some none)
    (z_enumerate : PySem.W.nsIn K mainGlobals "enumerate" = some none)
    (a_MODES : PySem.W.nsIn K mainGlobals "MODES" = some (some (.ref aM)))
    (l_MODES : K.lookup aM = some ⟨.type "tuple", odM, .seq itsM nM, slM⟩)
    (v_MODES : itsM.size ≤ sizeLine ∧ Vals modesV itsM.toList)
    (a_NO : PySem.W.nsIn K mainGlobals "NO_NAMES" = some (some (.ref aN)))
    (l_NO : K.lookup aN = some ⟨.type "tuple", odN, .seq itsN nN, slN⟩)
    (v_NO : itsN.size ≤ sizeLine ∧ Vals noN itsN.toList)
    (v_P : PySem.W.nsIn K mainGlobals "MOST_PLACES" = some (some (.int 60 tP)))
    (v_W : PySem.W.nsIn K mainGlobals "MOST_WIDTH" = some (some (.int 200 tW)))
    (v_D : PySem.W.nsIn K mainGlobals "DIGITS" = some (some (.str ("0123456789" : Str) tD)))
    (v_L : PySem.W.nsIn K mainGlobals "LETTERS" = some (some (.str lettS tL)))
    (v_ML : PySem.W.nsIn K mainGlobals "MOST_LETTERS" = some (some (.int 8 tML)))
    (v_MS : PySem.W.nsIn K mainGlobals "MOST_SIDES" = some (some (.int 4 tMS)))
    (v_SN : PySem.W.nsIn K mainGlobals "MOST_SEEN" = some (some (.int 50 tSN)))
    (v_MD : PySem.W.nsIn K mainGlobals "MOST_DIGITS" = some (some (.int 41 tMD)))
    (z_L : PySem.W.nsIn K cStatics "sys.int_max_str_digits" = some none)
    (z_S : PySem.W.nsIn K cStatics sharingNotToldKey = some none)
    (q_sign : PySem.W.nsIn K aD "sign" = some (some u_sign))
    (r_sign : RelV (.bl false) u_sign)
    (q_group : PySem.W.nsIn K aD "group" = some (some u_group))
    (r_group : RelV (.bl false) u_group)
    (q_width : PySem.W.nsIn K aD "width" = some (some u_width))
    (r_width : RelV (.int 0) u_width)
    (a_Reader : PySem.W.nsIn K mainGlobals "Reader" = some (some (.ref cR)))
    (cb_R : clsB K cR = true)
    (mk_R : PySem.W.makesIn K cR = true)
    (kp_R : PySem.W.keepIn K (.ref cR) = true)
    (at_R_init : PySem.W.findIn K (.ref cR) "__init__" = some (some (.ref fR_init)))
    (fn_R_init : PySem.W.isFn K (.ref fR_init) = true)
    (l_R_init : K.lookup fR_init = some ⟨ocRinit, odRinit, .func (PySem.W.fnOf "__init__" "Reader.__init__" (defArgs s_R_init) (defBody s_R_init) (defScope s_R_init) .none kVRinit dcRinit pmRinit anRinit cdRinit ctRinit), slRinit⟩)
    (c_R_init : PySem.W.codeIn K cdRinit "Reader.__init__" = true)
    (k_R_init : PySem.W.keepIn K (.ref fR_init) = true)
    (at_R_fault : PySem.W.findIn K (.ref cR) "fault_of" = some (some (.ref fR_fault)))
    (fn_R_fault : PySem.W.isFn K (.ref fR_fault) = true)
    (l_R_fault : K.lookup fR_fault = some ⟨ocRfault, odRfault, .func (PySem.W.fnOf "fault_of" "Reader.fault_of" (defArgs s_R_fault) (defBody s_R_fault) (defScope s_R_fault) .none kVRfault dcRfault pmRfault anRfault cdRfault ctRfault), slRfault⟩)
    (c_R_fault : PySem.W.codeIn K cdRfault "Reader.fault_of" = true)
    (k_R_fault : PySem.W.keepIn K (.ref fR_fault) = true)
    (at_R_entry : PySem.W.findIn K (.ref cR) "_fault_of_entry" = some (some (.ref fR_entry)))
    (fn_R_entry : PySem.W.isFn K (.ref fR_entry) = true)
    (l_R_entry : K.lookup fR_entry = some ⟨ocRentry, odRentry, .func (PySem.W.fnOf "_fault_of_entry" "Reader._fault_of_entry" (defArgs s_R_entry) (defBody s_R_entry) (defScope s_R_entry) .none kVRentry dcRentry pmRentry anRentry cdRentry ctRentry), slRentry⟩)
    (c_R_entry : PySem.W.codeIn K cdRentry "Reader._fault_of_entry" = true)
    (k_R_entry : PySem.W.keepIn K (.ref fR_entry) = true)
    (at_R_within : PySem.W.findIn K (.ref cR) "_fault_within" = some (some (.ref fR_within)))
    (fn_R_within : PySem.W.isFn K (.ref fR_within) = true)
    (l_R_within : K.lookup fR_within = some ⟨ocRwithin, odRwithin, .func (PySem.W.fnOf "_fault_within" "Reader._fault_within" (defArgs s_R_within) (defBody s_R_within) (defScope s_R_within) .none kVRwithin dcRwithin pmRwithin anRwithin cdRwithin ctRwithin), slRwithin⟩)
    (c_R_within : PySem.W.codeIn K cdRwithin "Reader._fault_within" = true)
    (k_R_within : PySem.W.keepIn K (.ref fR_within) = true)
    (at_R_end : PySem.W.findIn K (.ref cR) "_fault_of_end" = some (some (.ref fR_end)))
    (fn_R_end : PySem.W.isFn K (.ref fR_end) = true)
    (l_R_end : K.lookup fR_end = some ⟨ocRend, odRend, .func (PySem.W.fnOf "_fault_of_end" "Reader._fault_of_end" (defArgs s_R_end) (defBody s_R_end) (defScope s_R_end) .none kVRend dcRend pmRend anRend cdRend ctRend), slRend⟩)
    (c_R_end : PySem.W.codeIn K cdRend "Reader._fault_of_end" = true)
    (k_R_end : PySem.W.keepIn K (.ref fR_end) = true)
    (at_R_add : PySem.W.findIn K (.ref cR) "_add" = some (some (.ref fR_add)))
    (fn_R_add : PySem.W.isFn K (.ref fR_add) = true)
    (l_R_add : K.lookup fR_add = some ⟨ocRadd, odRadd, .func (PySem.W.fnOf "_add" "Reader._add" (defArgs s_R_add) (defBody s_R_add) (defScope s_R_add) .none kVRadd dcRadd pmRadd anRadd cdRadd ctRadd), slRadd⟩)
    (c_R_add : PySem.W.codeIn K cdRadd "Reader._add" = true)
    (k_R_add : PySem.W.keepIn K (.ref fR_add) = true)
    (na_entries : PySem.W.findIn K (.ref cR) "entries" = some none)
    (na_log : PySem.W.findIn K (.ref cR) "log" = some none)
    (na_lines : PySem.W.findIn K (.ref cR) "_lines" = some none)
    (na_known : PySem.W.findIn K (.ref cR) "_known" = some none) :
    ∃ fd : FuncData, (∀ (s : Shared) (v : Value), BindsTo s fd ⟨[v], []⟩ [("_law_script", v)]) ∧ ∀ base : Heap, K.In base → base.Ns mainGlobals mg → FnOk l.prog w K mg base CX0 10 fa fd ["_law_script"] (spLaw K) := by
  have e := hfa.symm.trans (PySem.W.mg_of X G a_law)
  cases e
  have F_is_int := fun_mk (st := s_is_int) l_is_int c_is_int k_is_int
  have b_is_int := F_is_int.binds (ps := ["thing"]) fun _ _ _ _ _ _ us hl => match us, hl with | [_], _ => rfl
  have m_is_int := PySem.W.mg_of X G a_is_int
  have F_is_int_between := fun_mk (st := s_is_int_between) l_is_int_between c_is_int_between k_is_int_between
  have b_is_int_between := F_is_int_between.binds (ps := ["thing", "least", "most"]) fun _ _ _ _ _ _ us hl => match us, hl with | [_, _, _], _ => rfl
  have m_is_int_between := PySem.W.mg_of X G a_is_int_between
  have F_check_value := fun_mk (st := s_check_value) l_check_value c_check_value k_check_value
  have b_check_value := F_check_value.binds (ps := ["value"]) fun _ _ _ _ _ _ us hl => match us, hl with | [_], _ => rfl
  have m_check_value := PySem.W.mg_of X G a_check_value
  have F_check_side := fun_mk (st := s_check_side) l_check_side c_check_side k_check_side
  have b_check_side := F_check_side.binds (ps := ["side"]) fun _ _ _ _ _ _ us hl => match us, hl with | [_], _ => rfl
  have m_check_side := PySem.W.mg_of X G a_check_side
  have F_is_side := fun_mk (st := s_is_side) l_is_side c_is_side k_is_side
  have b_is_side := F_is_side.binds (ps := ["thing"]) fun _ _ _ _ _ _ us hl => match us, hl with | [_], _ => rfl
  have m_is_side := PySem.W.mg_of X G a_is_side
  have m_text_of := PySem.W.mg_of X G a_text_of
  have F_check_style := fun_mk (st := s_check_style) l_check_style c_check_style k_check_style
  have b_check_style := F_check_style.binds (ps := ["sign", "group", "width"]) fun _ _ _ _ _ _ us hl => match us, hl with | [_, _, _], _ => rfl
  have m_check_style := PySem.W.mg_of X G a_check_style
  have F_grouped := fun_mk (st := s_grouped) l_grouped c_grouped k_grouped
  have b_grouped := F_grouped.binds (ps := ["digits"]) fun _ _ _ _ _ _ us hl => match us, hl with | [_], _ => rfl
  have m_grouped := PySem.W.mg_of X G a_grouped
  have F_mark := fun_mk (st := s_mark) l_mark c_mark k_mark
  have b_mark := F_mark.binds (ps := ["figure", "sign"]) fun _ _ _ _ _ _ us hl => match us, hl with | [_, _], _ => rfl
  have m_mark := PySem.W.mg_of X G a_mark
  have F_read_text := fun_mk (st := s_read_text) l_read_text c_read_text k_read_text
  have b_read_text := F_read_text.binds (ps := ["text"]) fun _ _ _ _ _ _ us hl => match us, hl with | [_], _ => rfl
  have m_read_text := PySem.W.mg_of X G a_read_text
  have F_past_whole := fun_mk (st := s_past_whole) l_past_whole c_past_whole k_past_whole
  have b_past_whole := F_past_whole.binds (ps := ["text", "at"]) fun _ _ _ _ _ _ us hl => match us, hl with | [_, _], _ => rfl
  have m_past_whole := PySem.W.mg_of X G a_past_whole
  have F_past_groups := fun_mk (st := s_past_groups) l_past_groups c_past_groups k_past_groups
  have b_past_groups := F_past_groups.binds (ps := ["text", "at"]) fun _ _ _ _ _ _ us hl => match us, hl with | [_, _], _ => rfl
  have m_past_groups := PySem.W.mg_of X G a_past_groups
  have F_past_places := fun_mk (st := s_past_places) l_past_places c_past_places k_past_places
  have b_past_places := F_past_places.binds (ps := ["text", "at"]) fun _ _ _ _ _ _ us hl => match us, hl with | [_, _], _ => rfl
  have m_past_places := PySem.W.mg_of X G a_past_places
  have F_past_digits := fun_mk (st := s_past_digits) l_past_digits c_past_digits k_past_digits
  have b_past_digits := F_past_digits.binds (ps := ["text", "at", "most"]) fun _ _ _ _ _ _ us hl => match us, hl with | [_, _, _], _ => rfl
  have m_past_digits := PySem.W.mg_of X G a_past_digits
  have F_known_entries := fun_mk (st := s_known_entries) l_known_entries c_known_entries k_known_entries
  have b_known_entries := F_known_entries.binds (ps := ["entries"]) fun _ _ _ _ _ _ us hl => match us, hl with | [_], _ => rfl
  have m_known_entries := PySem.W.mg_of X G a_known_entries
  have F_is_formed := fun_mk (st := s_is_formed) l_is_formed c_is_formed k_is_formed
  have b_is_formed := F_is_formed.binds (ps := ["thing"]) fun _ _ _ _ _ _ us hl => match us, hl with | [_], _ => rfl
  have m_is_formed := PySem.W.mg_of X G a_is_formed
  have F_are_lines := fun_mk (st := s_are_lines) l_are_lines c_are_lines k_are_lines
  have b_are_lines := F_are_lines.binds (ps := ["thing"]) fun _ _ _ _ _ _ us hl => match us, hl with | [_], _ => rfl
  have m_are_lines := PySem.W.mg_of X G a_are_lines
  have F_names_fit := fun_mk (st := s_names_fit) l_names_fit c_names_fit k_names_fit
  have b_names_fit := F_names_fit.binds (ps := ["entry", "known"]) fun _ _ _ _ _ _ us hl => match us, hl with | [_, _], _ => rfl
  have m_names_fit := PySem.W.mg_of X G a_names_fit
  have F_is_name := fun_mk (st := s_is_name) l_is_name c_is_name k_is_name
  have b_is_name := F_is_name.binds (ps := ["thing"]) fun _ _ _ _ _ _ us hl => match us, hl with | [_], _ => rfl
  have m_is_name := PySem.W.mg_of X G a_is_name
  have F_is_known := fun_mk (st := s_is_known) l_is_known c_is_known k_is_known
  have b_is_known := F_is_known.binds (ps := ["kind", "name", "known"]) fun _ _ _ _ _ _ us hl => match us, hl with | [_, _, _], _ => rfl
  have m_is_known := PySem.W.mg_of X G a_is_known
  have F_is_in_set := fun_mk (st := s_is_in_set) l_is_in_set c_is_in_set k_is_in_set
  have b_is_in_set := F_is_in_set.binds (ps := ["name", "group", "known"]) fun _ _ _ _ _ _ us hl => match us, hl with | [_, _, _], _ => rfl
  have m_is_in_set := PySem.W.mg_of X G a_is_in_set
  have F_worths_fit := fun_mk (st := s_worths_fit) l_worths_fit c_worths_fit k_worths_fit
  have b_worths_fit := F_worths_fit.binds (ps := ["entry", "known"]) fun _ _ _ _ _ _ us hl => match us, hl with | [_, _], _ => rfl
  have m_worths_fit := PySem.W.mg_of X G a_worths_fit
  have F_text_fits := fun_mk (st := s_text_fits) l_text_fits c_text_fits k_text_fits
  have b_text_fits := F_text_fits.binds (ps := ["name", "text", "known"]) fun _ _ _ _ _ _ us hl => match us, hl with | [_, _, _], _ => rfl
  have m_text_fits := PySem.W.mg_of X G a_text_fits
  have F_paper_text := fun_mk (st := s_paper_text) l_paper_text c_paper_text k_paper_text
  have b_paper_text := F_paper_text.binds (ps := ["entries"]) fun _ _ _ _ _ _ us hl => match us, hl with | [_], _ => rfl
  have m_paper_text := PySem.W.mg_of X G a_paper_text
  have F_lines_of := fun_mk (st := s_lines_of) l_lines_of c_lines_of k_lines_of
  have b_lines_of := F_lines_of.binds (ps := ["entry"]) fun _ _ _ _ _ _ us hl => match us, hl with | [_], _ => rfl
  have m_lines_of := PySem.W.mg_of X G a_lines_of
  have F_side_line := fun_mk (st := s_side_line) l_side_line c_side_line k_side_line
  have b_side_line := F_side_line.binds (ps := ["entry"]) fun _ _ _ _ _ _ us hl => match us, hl with | [_], _ => rfl
  have m_side_line := PySem.W.mg_of X G a_side_line
  have F_read_paper := fun_mk (st := s_read_paper) l_read_paper c_read_paper k_read_paper
  have b_read_paper := F_read_paper.binds (ps := ["text"]) fun _ _ _ _ _ _ us hl => match us, hl with | [_], _ => rfl
  have m_read_paper := PySem.W.mg_of X G a_read_paper
  have F_entry_of := fun_mk (st := s_entry_of) l_entry_of c_entry_of k_entry_of
  have b_entry_of := F_entry_of.binds (ps := ["words"]) fun _ _ _ _ _ _ us hl => match us, hl with | [_], _ => rfl
  have m_entry_of := PySem.W.mg_of X G a_entry_of
  have F_side_entry_of := fun_mk (st := s_side_entry_of) l_side_entry_of c_side_entry_of k_side_entry_of
  have b_side_entry_of := F_side_entry_of.binds (ps := ["words"]) fun _ _ _ _ _ _ us hl => match us, hl with | [_], _ => rfl
  have m_side_entry_of := PySem.W.mg_of X G a_side_entry_of
  have F_is_number := fun_mk (st := s_is_number) l_is_number c_is_number k_is_number
  have b_is_number := F_is_number.binds (ps := ["word"]) fun _ _ _ _ _ _ us hl => match us, hl with | [_], _ => rfl
  have m_is_number := PySem.W.mg_of X G a_is_number
  have F_L_source := fun_mk (st := s_L_source) l_L_source c_L_source k_L_source
  have b_L_source := F_L_source.binds (ps := ["_law_script"]) fun _ _ _ _ _ _ us hl => match us, hl with | [_], _ => rfl
  have m_L_source := PySem.W.mg_of X G a_L_source
  have F_L_draw := fun_mk (st := s_L_draw) l_L_draw c_L_draw k_L_draw
  have b_L_draw := F_L_draw.binds (ps := ["_law_source_here", "_law_limit"]) fun _ _ _ _ _ _ us hl => match us, hl with | [_, _], _ => rfl
  have m_L_draw := PySem.W.mg_of X G a_L_draw
  have F_L_pick := fun_mk (st := s_L_pick) l_L_pick c_L_pick k_L_pick
  have b_L_pick := F_L_pick.binds (ps := ["_law_source_here", "_law_values"]) fun _ _ _ _ _ _ us hl => match us, hl with | [_, _], _ => rfl
  have m_L_pick := PySem.W.mg_of X G a_L_pick
  have F_L_great := fun_mk (st := s_L_great) l_L_great c_L_great k_L_great
  have b_L_great := F_L_great.binds (ps := ["_law_source_here", "_law_limit"]) fun _ _ _ _ _ _ us hl => match us, hl with | [_, _], _ => rfl
  have m_L_great := PySem.W.mg_of X G a_L_great
  have F_L_ten := fun_mk (st := s_L_ten) l_L_ten c_L_ten k_L_ten
  have b_L_ten := F_L_ten.binds (ps := ["_law_many"]) fun _ _ _ _ _ _ us hl => match us, hl with | [_], _ => rfl
  have m_L_ten := PySem.W.mg_of X G a_L_ten
  have F_L_step := fun_mk (st := s_L_step) l_L_step c_L_step k_L_step
  have b_L_step := F_L_step.binds (ps := ["_law_source_here", "_law_most"]) fun _ _ _ _ _ _ us hl => match us, hl with | [_, _], _ => rfl
  have m_L_step := PySem.W.mg_of X G a_L_step
  have F_L_side := fun_mk (st := s_L_side) l_L_side c_L_side k_L_side
  have b_L_side := F_L_side.binds (ps := ["_law_source_here", "_law_most"]) fun _ _ _ _ _ _ us hl => match us, hl with | [_, _], _ => rfl
  have m_L_side := PySem.W.mg_of X G a_L_side
  have F_L_text := fun_mk (st := s_L_text) l_L_text c_L_text k_L_text
  have b_L_text := F_L_text.binds (ps := ["_law_figure", "_law_places"]) fun _ _ _ _ _ _ us hl => match us, hl with | [_, _], _ => rfl
  have m_L_text := PySem.W.mg_of X G a_L_text
  have F_L_entries := fun_mk (st := s_L_entries) l_L_entries c_L_entries k_L_entries
  have b_L_entries := F_L_entries.binds (ps := ["_law_source_here"]) fun _ _ _ _ _ _ us hl => match us, hl with | [_], _ => rfl
  have m_L_entries := PySem.W.mg_of X G a_L_entries
  have F_L_lines := fun_mk (st := s_L_lines) l_L_lines c_L_lines k_L_lines
  have b_L_lines := F_L_lines.binds (ps := ["_law_entry"]) fun _ _ _ _ _ _ us hl => match us, hl with | [_], _ => rfl
  have m_L_lines := PySem.W.mg_of X G a_L_lines
  have F_L_loose := fun_mk (st := s_L_loose) l_L_loose c_L_loose k_L_loose
  have b_L_loose := F_L_loose.binds (ps := ["_law_source_here", "_law_text_here"]) fun _ _ _ _ _ _ us hl => match us, hl with | [_, _], _ => rfl
  have m_L_loose := PySem.W.mg_of X G a_L_loose
  have F_law := fun_mk (st := s_law) l_law c_law k_law
  have b_law := F_law.binds (ps := ["_law_script"]) fun _ _ _ _ _ _ us hl => match us, hl with | [_], _ => rfl
  have m_law := PySem.W.mg_of X G a_law
  have n_isinstance := PySem.W.mg_none_of X G z_isinstance
  have n_int := PySem.W.mg_none_of X G z_int
  have n_bool := PySem.W.mg_none_of X G z_bool
  have n_len := PySem.W.mg_none_of X G z_len
  have n_str := PySem.W.mg_none_of X G z_str
  have n_abs := PySem.W.mg_none_of X G z_abs
  have n_range := PySem.W.mg_none_of X G z_range
  have n_max := PySem.W.mg_none_of X G z_max
  have n_min := PySem.W.mg_none_of X G z_min
  have n_tuple := PySem.W.mg_none_of X G z_tuple
  have n_divmod := PySem.W.mg_none_of X G z_divmod
  have n_list := PySem.W.mg_none_of X G z_list
  have n_all := PySem.W.mg_none_of X G z_all
  have n_enumerate := PySem.W.mg_none_of X G z_enumerate
  have F_R_init := fun_mk (st := s_R_init) l_R_init c_R_init k_R_init
  have b_R_init := F_R_init.binds (ps := ["self"]) fun _ _ _ _ _ _ us hl => match us, hl with | [_], _ => rfl
  have F_R_fault := fun_mk (st := s_R_fault) l_R_fault c_R_fault k_R_fault
  have b_R_fault := F_R_fault.binds (ps := ["self", "words"]) fun _ _ _ _ _ _ us hl => match us, hl with | [_, _], _ => rfl
  have F_R_entry := fun_mk (st := s_R_entry) l_R_entry c_R_entry k_R_entry
  have b_R_entry := F_R_entry.binds (ps := ["self", "words"]) fun _ _ _ _ _ _ us hl => match us, hl with | [_, _], _ => rfl
  have F_R_within := fun_mk (st := s_R_within) l_R_within c_R_within k_R_within
  have b_R_within := F_R_within.binds (ps := ["self", "words"]) fun _ _ _ _ _ _ us hl => match us, hl with | [_, _], _ => rfl
  have F_R_end := fun_mk (st := s_R_end) l_R_end c_R_end k_R_end
  have b_R_end := F_R_end.binds (ps := ["self"]) fun _ _ _ _ _ _ us hl => match us, hl with | [_], _ => rfl
  have F_R_add := fun_mk (st := s_R_add) l_R_add c_R_add k_R_add
  have b_R_add := F_R_add.binds (ps := ["self", "entry"]) fun _ _ _ _ _ _ us hl => match us, hl with | [_, _], _ => rfl
  have BL : Blt mg := ⟨n_len, n_abs, n_int, n_range⟩
  have TT : TxtT mg tP tW := ⟨n_isinstance, n_int, n_bool, n_len, n_str, n_abs, n_range, n_max, PySem.W.mg_of X G v_P, PySem.W.mg_of X G v_W⟩
  have RT : ReadT mg := ⟨n_isinstance, n_str, n_len, n_int, n_max⟩
  have gD := PySem.W.mg_of X G v_D
  have gP := PySem.W.mg_of X G v_P
  have ST : SideT K mg aM := ⟨n_isinstance, n_int, n_bool, n_tuple, n_len, n_divmod, PySem.W.mg_of X G a_MODES, fun _ => .inr ⟨_, _, _, l_MODES, rfl, rfl, v_MODES.1, v_MODES.2⟩⟩
  have T : EnT K mg aN := { isi := n_isinstance, str := n_str, tuple := n_tuple, list := n_list, len := n_len, all := n_all, gN := PySem.W.mg_of X G a_NO, tN := fun _ => .inr ⟨_, _, _, l_NO, rfl, rfl, v_NO.1, v_NO.2⟩, lt := ⟨_, PySem.W.mg_of X G v_L⟩, ml := ⟨_, PySem.W.mg_of X G v_ML⟩, ms := ⟨_, PySem.W.mg_of X G v_MS⟩, mp := ⟨_, PySem.W.mg_of X G v_P⟩, sn := ⟨_, PySem.W.mg_of X G v_SN⟩ }
  have NT : NumT mg := { len := n_len, all := n_all, int := n_int, md := ⟨_, PySem.W.mg_of X G v_MD⟩, dg := ⟨_, PySem.W.mg_of X G v_D⟩ }
  have MT : MaxT mg := ⟨n_max, n_min⟩
  have gR := PySem.W.mg_of X G a_Reader
  have long : ∀ Y : Cx, Y.K = K → CallR Y (.type "int") (fun xs H Q => ∃ a n, xs = [.str a] ∧ PySem.intText? a = some n ∧ a.length ≤ 2000 ∧ Q (.int n) H) := fun _ e => call_int_long (by rw [e]; exact z_L)
  have D_text_of : FunD K "text_of" "text_of" (defArgs s_text_of) (defBody s_text_of) (defScope s_text_of) [] [("sign", .bl false), ("group", .bl false), ("width", .int 0)] f_text_of _ := ⟨⟨_, _, _, _, _, _, _, _, _, _, rfl, l_text_of, c_text_of, .inl ⟨rfl, rfl⟩, .inr ⟨aD, rfl, fun q hq => by
    simp only [List.mem_cons, List.not_mem_nil, or_false] at hq
    rcases hq with e | e | e <;> subst e
    · exact ⟨_, q_sign, r_sign⟩
    · exact ⟨_, q_group, r_group⟩
    · exact ⟨_, q_width, r_width⟩⟩⟩, k_text_of⟩
  have clR := clsB_ok cb_R
  have MK : Mk K cR fR_init := ⟨mk_R, at_R_init, fn_R_init, kp_R⟩
  have ME_fault : Meth K cR "fault_of" fR_fault := ⟨at_R_fault, fn_R_fault, k_R_fault⟩
  have ME_entry : Meth K cR "_fault_of_entry" fR_entry := ⟨at_R_entry, fn_R_entry, k_R_entry⟩
  have ME_within : Meth K cR "_fault_within" fR_within := ⟨at_R_within, fn_R_within, k_R_within⟩
  have ME_end : Meth K cR "_fault_of_end" fR_end := ⟨at_R_end, fn_R_end, k_R_end⟩
  have ME_add : Meth K cR "_add" fR_add := ⟨at_R_add, fn_R_add, k_R_add⟩
  refine ⟨PySem.W.fnOf "law" "law" (defArgs s_law) (defBody s_law) (defScope s_law) .none kV_law dc_law pm_law an_law cd_law ct_law, fun s v => .of_eq rfl, fun base _ _ => ?_⟩
  have C_is_int : Cal l.prog w K mg base "is_int" 1 ["thing"] spIsInt f_is_int _ := ⟨ok_is_int F_is_int TT, m_is_int, k_is_int, b_is_int⟩
  have C_is_int_between : Cal l.prog w K mg base "is_int_between" 2 ["thing", "least", "most"] spBetween f_is_int_between _ := ⟨ok_between F_is_int_between C_is_int, m_is_int_between, k_is_int_between, b_is_int_between⟩
  have C_check_value : Cal l.prog w K mg base "check_value" 2 ["value"] spCheckValue f_check_value _ := ⟨ok_check_value F_check_value C_is_int, m_check_value, k_check_value, b_check_value⟩
  have C_check_side : Cal l.prog w K mg base "check_side" 3 ["side"] spCheckSide f_check_side _ := ⟨ok_check_side F_check_side ST C_is_int_between, m_check_side, k_check_side, b_check_side⟩
  have C_is_side : Cal l.prog w K mg base "is_side" 4 ["thing"] spIsSide f_is_side _ := ⟨ok_is_side F_is_side C_check_side, m_is_side, k_is_side, b_is_side⟩
  have C_check_style : Cal l.prog w K mg base "_check_style" 3 ["sign", "group", "width"] spStyle f_check_style _ := ⟨ok_style F_check_style TT C_is_int_between, m_check_style, k_check_style, b_check_style⟩
  have C_grouped : Cal l.prog w K mg base "_grouped" 1 ["digits"] spGrouped f_grouped _ := ⟨ok_grouped F_grouped TT, m_grouped, k_grouped, b_grouped⟩
  have C_mark : Cal l.prog w K mg base "_mark" 1 ["figure", "sign"] spMark f_mark _ := ⟨ok_mark F_mark, m_mark, k_mark, b_mark⟩
  have C_TX : TxC l.prog w K mg base f_text_of _ := ⟨D_text_of, ok_text_of D_text_of TT C_check_value C_is_int_between C_check_style C_grouped C_mark (fun _ _ h0 h1 hp => dig_ok h0 h1 hp), m_text_of, k_text_of⟩
  have C_past_digits : Cal l.prog w K mg base "_past_digits" 1 ["text", "at", "most"] spPastD f_past_digits _ := ⟨ok_past_digits F_past_digits n_len gD, m_past_digits, k_past_digits, b_past_digits⟩
  have C_past_places : Cal l.prog w K mg base "_past_places" 2 ["text", "at"] spPlaces f_past_places _ := ⟨ok_past_places F_past_places gP C_past_digits, m_past_places, k_past_places, b_past_places⟩
  have C_past_groups : Cal l.prog w K mg base "_past_groups" 2 ["text", "at"] spGroups f_past_groups _ := ⟨ok_past_groups F_past_groups C_past_digits, m_past_groups, k_past_groups, b_past_groups⟩
  have C_past_whole : Cal l.prog w K mg base "_past_whole" 3 ["text", "at"] spWhole f_past_whole _ := ⟨ok_past_whole F_past_whole n_len C_past_digits C_past_groups, m_past_whole, k_past_whole, b_past_whole⟩
  have C_read_text : Cal l.prog w K mg base "read_text" 4 ["text"] spRead f_read_text _ := ⟨ok_read_text F_read_text RT C_past_whole C_past_places long, m_read_text, k_read_text, b_read_text⟩
  have C_is_name : Cal l.prog w K mg base "_is_name" 1 ["thing"] spName f_is_name _ := ⟨ok_is_name F_is_name T, m_is_name, k_is_name, b_is_name⟩
  have C_is_known : Cal l.prog w K mg base "is_known" 1 ["kind", "name", "known"] spIsKn f_is_known _ := ⟨ok_is_known F_is_known T, m_is_known, k_is_known, b_is_known⟩
  have C_is_in_set : Cal l.prog w K mg base "is_in_set" 1 ["name", "group", "known"] spInSet f_is_in_set _ := ⟨ok_in_set F_is_in_set, m_is_in_set, k_is_in_set, b_is_in_set⟩
  have C_text_fits : Cal l.prog w K mg base "text_fits" 5 ["name", "text", "known"] spTxFits f_text_fits _ := ⟨ok_text_fits F_text_fits C_TX C_read_text, m_text_fits, k_text_fits, b_text_fits⟩
  have C_names_fit : Cal l.prog w K mg base "names_fit" 2 ["entry", "known"] spFits f_names_fit _ := ⟨ok_names_fit F_names_fit T C_is_name C_is_known C_is_in_set, m_names_fit, k_names_fit, b_names_fit⟩
  have C_worths_fit : Cal l.prog w K mg base "worths_fit" 6 ["entry", "known"] spFits f_worths_fit _ := ⟨ok_worths F_worths_fit T C_is_side C_is_int_between C_text_fits, m_worths_fit, k_worths_fit, b_worths_fit⟩
  have C_are_lines : Cal l.prog w K mg base "_are_lines" 1 ["thing"] spLines f_are_lines _ := ⟨ok_are_lines F_are_lines T, m_are_lines, k_are_lines, b_are_lines⟩
  have C_is_formed : Cal l.prog w K mg base "_is_formed" 2 ["thing"] spFormed f_is_formed _ := ⟨ok_formed F_is_formed T C_are_lines, m_is_formed, k_is_formed, b_is_formed⟩
  have C_known_entries : Cal l.prog w K mg base "known_entries" 7 ["entries"] spKnE f_known_entries _ := ⟨ok_known F_known_entries T C_is_formed C_names_fit C_worths_fit, m_known_entries, k_known_entries, b_known_entries⟩
  have C_side_line : Cal l.prog w K mg base "_side_line" 1 ["entry"] spSideLine f_side_line _ := ⟨ok_side_line F_side_line, m_side_line, k_side_line, b_side_line⟩
  have C_lines_of : Cal l.prog w K mg base "_lines_of" 2 ["entry"] spLinesOf f_lines_of _ := ⟨ok_lines_of F_lines_of C_side_line, m_lines_of, k_lines_of, b_lines_of⟩
  have C_paper_text : Cal l.prog w K mg base "paper_text" 8 ["entries"] spPaper f_paper_text _ := ⟨ok_paper F_paper_text C_known_entries C_lines_of, m_paper_text, k_paper_text, b_paper_text⟩
  have C_is_number : Cal l.prog w K mg base "_is_number" 1 ["word"] spIsNum f_is_number _ := ⟨ok_is_number F_is_number NT, m_is_number, k_is_number, b_is_number⟩
  have C_side_entry_of : Cal l.prog w K mg base "_side_entry_of" 2 ["words"] spSideEnt f_side_entry_of _ := ⟨ok_side_entry F_side_entry_of NT long C_is_number, m_side_entry_of, k_side_entry_of, b_side_entry_of⟩
  have C_entry_of : Cal l.prog w K mg base "_entry_of" 3 ["words"] spEntry f_entry_of _ := ⟨ok_entry_of F_entry_of T C_side_entry_of, m_entry_of, k_entry_of, b_entry_of⟩
  have M_init : FnOk l.prog w K mg base CX0 1 fR_init _ ["self"] (spRInit cR) := ok_R_init F_R_init clR na_entries na_log na_lines na_known
  have M_add : FnOk l.prog w K mg base CX0 1 fR_add _ ["self", "entry"] (spAdd cR) := ok_R_add F_R_add clR na_entries na_known
  have M_end : FnOk l.prog w K mg base CX0 2 fR_end _ ["self"] (spEnd cR) := ok_R_end F_R_end T clR na_log na_lines ME_add M_add b_R_add
  have M_within : FnOk l.prog w K mg base CX0 6 fR_within _ ["self", "words"] (spWithin cR) := ok_R_within F_R_within T clR na_log na_lines na_known C_is_in_set C_text_fits
  have M_entry : FnOk l.prog w K mg base CX0 7 fR_entry _ ["self", "words"] (spREntry cR) := ok_R_entry F_R_entry clR na_log na_lines na_known C_entry_of C_names_fit C_worths_fit ME_add M_add b_R_add
  have M_fault : FnOk l.prog w K mg base CX0 8 fR_fault _ ["self", "words"] (spFault cR) := ok_R_fault F_R_fault clR na_log ME_entry M_entry b_R_entry ME_end M_end b_R_end ME_within M_within b_R_within
  have C_read_paper : Cal l.prog w K mg base "read_paper" 9 ["text"] spReadP f_read_paper _ := ⟨ok_read_paper F_read_paper T n_enumerate gR clR na_entries na_log MK M_init b_R_init ME_fault M_fault b_R_fault, m_read_paper, k_read_paper, b_read_paper⟩
  have C_L_source : Cal l.prog w K mg base "_law_source" 1 ["_law_script"] (spSource K) f_L_source _ := ⟨ok_source F_L_source BL, m_L_source, k_L_source, b_L_source⟩
  have C_L_draw : Cal l.prog w K mg base "_law_draw" 1 ["_law_source_here", "_law_limit"] spDraw f_L_draw _ := ⟨ok_draw F_L_draw BL, m_L_draw, k_L_draw, b_L_draw⟩
  have C_L_pick : Cal l.prog w K mg base "_law_pick" 2 ["_law_source_here", "_law_values"] spPick f_L_pick _ := ⟨ok_pick F_L_pick BL C_L_draw, m_L_pick, k_L_pick, b_L_pick⟩
  have C_L_great : Cal l.prog w K mg base "_law_great" 2 ["_law_source_here", "_law_limit"] spGreat f_L_great _ := ⟨ok_great F_L_great BL C_L_draw, m_L_great, k_L_great, b_L_great⟩
  have C_L_ten : Cal l.prog w K mg base "_law_ten" 1 ["_law_many"] spTen f_L_ten _ := ⟨ok_ten F_L_ten BL, m_L_ten, k_L_ten, b_L_ten⟩
  have C_L_step : Cal l.prog w K mg base "_law_step" 3 ["_law_source_here", "_law_most"] spStep f_L_step _ := ⟨ok_step F_L_step BL MT C_L_draw C_L_pick C_L_great C_L_ten, m_L_step, k_L_step, b_L_step⟩
  have C_L_side : Cal l.prog w K mg base "_law_side" 4 ["_law_source_here", "_law_most"] spSide f_L_side _ := ⟨ok_side F_L_side BL C_L_step C_L_pick C_L_great, m_L_side, k_L_side, b_L_side⟩
  have C_L_text : Cal l.prog w K mg base "_law_text" 1 ["_law_figure", "_law_places"] spLText f_L_text _ := ⟨ok_L_text F_L_text T BL MT, m_L_text, k_L_text, b_L_text⟩
  have C_L_entries : Cal l.prog w K mg base "_law_entries" 5 ["_law_source_here"] spLEnts f_L_entries _ := ⟨ok_L_entries F_L_entries T BL C_L_draw C_L_pick C_L_great C_L_side C_L_text, m_L_entries, k_L_entries, b_L_entries⟩
  have C_L_lines : Cal l.prog w K mg base "_law_lines" 1 ["_law_entry"] spLLines f_L_lines _ := ⟨ok_L_lines F_L_lines T BL, m_L_lines, k_L_lines, b_L_lines⟩
  have C_L_loose : Cal l.prog w K mg base "_law_loose" 2 ["_law_source_here", "_law_text_here"] spLoose f_L_loose _ := ⟨ok_L_loose F_L_loose BL z_S C_L_draw, m_L_loose, k_L_loose, b_L_loose⟩
  exact ok_law F_law T BL C_L_source C_L_entries C_L_lines C_L_loose C_paper_text C_read_paper
theorem walk {l : PySem.W.OpenLaw} {q : Program} {loose : List Str} {XP : (Str → Option Value) → Heap → Prop} {YP : World → Heap → Prop} {d : DefRec} {K : Params → PySem.W.Frag} (hn : l.most = some 63) (hdf : d.params.defaults = [])
    (hY : ∀ (w : World) (h : Heap), YP w h → (K w.params).In h)
    (F : ∀ (w : World) (mg : Str → Option Value) (fa : Addr) (h : Heap), (K w.params).In h → h.Ns mainGlobals mg → mg d.name = some (.ref fa) →
      ∃ fd : FuncData, (∀ (s : Shared) (u : Value), BindsTo s fd ⟨[u], []⟩ [("_law_script", u)]) ∧ ∀ base : Heap, (K w.params).In base → base.Ns mainGlobals mg → FnOk l.prog w (K w.params) mg base CX0 10 fa fd ["_law_script"] (spLaw (K w.params))) :
    PySem.W.WalkO q loose XP YP l.row.toRowW d [] (fun f vs => PySem.call f vs) :=
  L2.walk_of (n := 63) (k := 10) (x := "_law_script") (CX := fun _ => CX0) (sp := fun w => spLaw (K w.params)) hn (by decide) hdf ⟨rfl, by decide, by decide⟩ hY F (fun _ _ a ns hl _ hS => ⟨a, ns, rfl, hS, hl, fun _ => rfl⟩) fun _ _ _ _ _ z => z
end HT
open PySem PySem.W PyProof.Rows
set_option maxRecDepth 100000 in
set_option maxHeartbeats 0 in
theorem PySem.Challenge.cw_handedtext_k40_papers_holds : PySem.Challenge.rw_handedtext_k40_papers.Holds := by
  w_on; o_law; k_head; (case hw => w_witness2)
  k_fill
  refine HT.walk (l := PySem.Challenge.rw_handedtext_k40_papers) rfl rfl (fun w h Y => PySem.W.kIn_of Y) ?F
  case F =>
    intro w mg fa h KX G hmg
    refine' HT.all_mk KX G hmg ?a_is_int ?l_is_int ?c_is_int ?k_is_int ?a_is_int_between ?l_is_int_between ?c_is_int_between ?k_is_int_between ?a_check_value ?l_check_value ?c_check_value ?k_check_value ?a_check_side ?l_check_side ?c_check_side ?k_check_side ?a_is_side ?l_is_side ?c_is_side ?k_is_side ?a_text_of ?l_text_of ?c_text_of ?k_text_of ?a_check_style ?l_check_style ?c_check_style ?k_check_style ?a_grouped ?l_grouped ?c_grouped ?k_grouped ?a_mark ?l_mark ?c_mark ?k_mark ?a_read_text ?l_read_text ?c_read_text ?k_read_text ?a_past_whole ?l_past_whole ?c_past_whole ?k_past_whole ?a_past_groups ?l_past_groups ?c_past_groups ?k_past_groups ?a_past_places ?l_past_places ?c_past_places ?k_past_places ?a_past_digits ?l_past_digits ?c_past_digits ?k_past_digits ?a_known_entries ?l_known_entries ?c_known_entries ?k_known_entries ?a_is_formed ?l_is_formed ?c_is_formed ?k_is_formed ?a_are_lines ?l_are_lines ?c_are_lines ?k_are_lines ?a_names_fit ?l_names_fit ?c_names_fit ?k_names_fit ?a_is_name ?l_is_name ?c_is_name ?k_is_name ?a_is_known ?l_is_known ?c_is_known ?k_is_known ?a_is_in_set ?l_is_in_set ?c_is_in_set ?k_is_in_set ?a_worths_fit ?l_worths_fit ?c_worths_fit ?k_worths_fit ?a_text_fits ?l_text_fits ?c_text_fits ?k_text_fits ?a_paper_text ?l_paper_text ?c_paper_text ?k_paper_text ?a_lines_of ?l_lines_of ?c_lines_of ?k_lines_of ?a_side_line ?l_side_line ?c_side_line ?k_side_line ?a_read_paper ?l_read_paper ?c_read_paper ?k_read_paper ?a_entry_of ?l_entry_of ?c_entry_of ?k_entry_of ?a_side_entry_of ?l_side_entry_of ?c_side_entry_of ?k_side_entry_of ?a_is_number ?l_is_number ?c_is_number ?k_is_number ?a_L_source ?l_L_source ?c_L_source ?k_L_source ?a_L_draw ?l_L_draw ?c_L_draw ?k_L_draw ?a_L_pick ?l_L_pick ?c_L_pick ?k_L_pick ?a_L_great ?l_L_great ?c_L_great ?k_L_great ?a_L_ten ?l_L_ten ?c_L_ten ?k_L_ten ?a_L_step ?l_L_step ?c_L_step ?k_L_step ?a_L_side ?l_L_side ?c_L_side ?k_L_side ?a_L_text ?l_L_text ?c_L_text ?k_L_text ?a_L_entries ?l_L_entries ?c_L_entries ?k_L_entries ?a_L_lines ?l_L_lines ?c_L_lines ?k_L_lines ?a_L_loose ?l_L_loose ?c_L_loose ?k_L_loose ?a_law ?l_law ?c_law ?k_law ?z_isinstance ?z_int ?z_bool ?z_len ?z_str ?z_abs ?z_range ?z_max ?z_min ?z_tuple ?z_divmod ?z_list ?z_all ?z_enumerate ?a_MODES ?l_MODES ?v_MODES ?a_NO ?l_NO ?v_NO ?v_P ?v_W ?v_D ?v_L ?v_ML ?v_MS ?v_SN ?v_MD ?z_L ?z_S ?q_sign ?r_sign ?q_group ?r_group ?q_width ?r_width ?a_Reader ?cb_R ?mk_R ?kp_R ?at_R_init ?fn_R_init ?l_R_init ?c_R_init ?k_R_init ?at_R_fault ?fn_R_fault ?l_R_fault ?c_R_fault ?k_R_fault ?at_R_entry ?fn_R_entry ?l_R_entry ?c_R_entry ?k_R_entry ?at_R_within ?fn_R_within ?l_R_within ?c_R_within ?k_R_within ?at_R_end ?fn_R_end ?l_R_end ?c_R_end ?k_R_end ?at_R_add ?fn_R_add ?l_R_add ?c_R_add ?k_R_add ?na_entries ?na_log ?na_lines ?na_known
    (case a_is_int => k_is)
    (case l_is_int => k_is)
    (case c_is_int => k_is)
    (case k_is_int => k_is)
    (case a_is_int_between => k_is)
    (case l_is_int_between => k_is)
    (case c_is_int_between => k_is)
    (case k_is_int_between => k_is)
    (case a_check_value => k_is)
    (case l_check_value => k_is)
    (case c_check_value => k_is)
    (case k_check_value => k_is)
    (case a_check_side => k_is)
    (case l_check_side => k_is)
    (case c_check_side => k_is)
    (case k_check_side => k_is)
    (case a_is_side => k_is)
    (case l_is_side => k_is)
    (case c_is_side => k_is)
    (case k_is_side => k_is)
    (case a_text_of => k_is)
    (case l_text_of => k_is)
    (case c_text_of => k_is)
    (case k_text_of => k_is)
    (case a_check_style => k_is)
    (case l_check_style => k_is)
    (case c_check_style => k_is)
    (case k_check_style => k_is)
    (case a_grouped => k_is)
    (case l_grouped => k_is)
    (case c_grouped => k_is)
    (case k_grouped => k_is)
    (case a_mark => k_is)
    (case l_mark => k_is)
    (case c_mark => k_is)
    (case k_mark => k_is)
    (case a_read_text => k_is)
    (case l_read_text => k_is)
    (case c_read_text => k_is)
    (case k_read_text => k_is)
    (case a_past_whole => k_is)
    (case l_past_whole => k_is)
    (case c_past_whole => k_is)
    (case k_past_whole => k_is)
    (case a_past_groups => k_is)
    (case l_past_groups => k_is)
    (case c_past_groups => k_is)
    (case k_past_groups => k_is)
    (case a_past_places => k_is)
    (case l_past_places => k_is)
    (case c_past_places => k_is)
    (case k_past_places => k_is)
    (case a_past_digits => k_is)
    (case l_past_digits => k_is)
    (case c_past_digits => k_is)
    (case k_past_digits => k_is)
    (case a_known_entries => k_is)
    (case l_known_entries => k_is)
    (case c_known_entries => k_is)
    (case k_known_entries => k_is)
    (case a_is_formed => k_is)
    (case l_is_formed => k_is)
    (case c_is_formed => k_is)
    (case k_is_formed => k_is)
    (case a_are_lines => k_is)
    (case l_are_lines => k_is)
    (case c_are_lines => k_is)
    (case k_are_lines => k_is)
    (case a_names_fit => k_is)
    (case l_names_fit => k_is)
    (case c_names_fit => k_is)
    (case k_names_fit => k_is)
    (case a_is_name => k_is)
    (case l_is_name => k_is)
    (case c_is_name => k_is)
    (case k_is_name => k_is)
    (case a_is_known => k_is)
    (case l_is_known => k_is)
    (case c_is_known => k_is)
    (case k_is_known => k_is)
    (case a_is_in_set => k_is)
    (case l_is_in_set => k_is)
    (case c_is_in_set => k_is)
    (case k_is_in_set => k_is)
    (case a_worths_fit => k_is)
    (case l_worths_fit => k_is)
    (case c_worths_fit => k_is)
    (case k_worths_fit => k_is)
    (case a_text_fits => k_is)
    (case l_text_fits => k_is)
    (case c_text_fits => k_is)
    (case k_text_fits => k_is)
    (case a_paper_text => k_is)
    (case l_paper_text => k_is)
    (case c_paper_text => k_is)
    (case k_paper_text => k_is)
    (case a_lines_of => k_is)
    (case l_lines_of => k_is)
    (case c_lines_of => k_is)
    (case k_lines_of => k_is)
    (case a_side_line => k_is)
    (case l_side_line => k_is)
    (case c_side_line => k_is)
    (case k_side_line => k_is)
    (case a_read_paper => k_is)
    (case l_read_paper => k_is)
    (case c_read_paper => k_is)
    (case k_read_paper => k_is)
    (case a_entry_of => k_is)
    (case l_entry_of => k_is)
    (case c_entry_of => k_is)
    (case k_entry_of => k_is)
    (case a_side_entry_of => k_is)
    (case l_side_entry_of => k_is)
    (case c_side_entry_of => k_is)
    (case k_side_entry_of => k_is)
    (case a_is_number => k_is)
    (case l_is_number => k_is)
    (case c_is_number => k_is)
    (case k_is_number => k_is)
    (case a_L_source => k_is)
    (case l_L_source => k_is)
    (case c_L_source => k_is)
    (case k_L_source => k_is)
    (case a_L_draw => k_is)
    (case l_L_draw => k_is)
    (case c_L_draw => k_is)
    (case k_L_draw => k_is)
    (case a_L_pick => k_is)
    (case l_L_pick => k_is)
    (case c_L_pick => k_is)
    (case k_L_pick => k_is)
    (case a_L_great => k_is)
    (case l_L_great => k_is)
    (case c_L_great => k_is)
    (case k_L_great => k_is)
    (case a_L_ten => k_is)
    (case l_L_ten => k_is)
    (case c_L_ten => k_is)
    (case k_L_ten => k_is)
    (case a_L_step => k_is)
    (case l_L_step => k_is)
    (case c_L_step => k_is)
    (case k_L_step => k_is)
    (case a_L_side => k_is)
    (case l_L_side => k_is)
    (case c_L_side => k_is)
    (case k_L_side => k_is)
    (case a_L_text => k_is)
    (case l_L_text => k_is)
    (case c_L_text => k_is)
    (case k_L_text => k_is)
    (case a_L_entries => k_is)
    (case l_L_entries => k_is)
    (case c_L_entries => k_is)
    (case k_L_entries => k_is)
    (case a_L_lines => k_is)
    (case l_L_lines => k_is)
    (case c_L_lines => k_is)
    (case k_L_lines => k_is)
    (case a_L_loose => k_is)
    (case l_L_loose => k_is)
    (case c_L_loose => k_is)
    (case k_L_loose => k_is)
    (case a_law => k_is)
    (case l_law => k_is)
    (case c_law => k_is)
    (case k_law => k_is)
    (case z_isinstance => k_is)
    (case z_int => k_is)
    (case z_bool => k_is)
    (case z_len => k_is)
    (case z_str => k_is)
    (case z_abs => k_is)
    (case z_range => k_is)
    (case z_max => k_is)
    (case z_min => k_is)
    (case z_tuple => k_is)
    (case z_divmod => k_is)
    (case z_list => k_is)
    (case z_all => k_is)
    (case z_enumerate => k_is)
    (case a_MODES => k_is)
    (case l_MODES => k_is)
    (case v_MODES => exact ⟨by decide, .cons ⟨_, rfl⟩ (.cons ⟨_, rfl⟩ (.cons ⟨_, rfl⟩ (.cons ⟨_, rfl⟩ (.cons ⟨_, rfl⟩ .nil))))⟩)
    (case a_NO => k_is)
    (case l_NO => k_is)
    (case v_NO => exact ⟨by decide, .cons ⟨_, rfl⟩ (.cons ⟨_, rfl⟩ (.cons ⟨_, rfl⟩ (.cons ⟨_, rfl⟩ (.cons ⟨_, rfl⟩ (.cons ⟨_, rfl⟩ (.cons ⟨_, rfl⟩ (.cons ⟨_, rfl⟩ .nil)))))))⟩)
    (case v_P => k_is)
    (case v_W => k_is)
    (case v_D => k_is)
    (case v_L => k_is)
    (case v_ML => k_is)
    (case v_MS => k_is)
    (case v_SN => k_is)
    (case v_MD => k_is)
    (case z_L => k_is)
    (case z_S => k_is)
    (case q_sign => k_is)
    (case r_sign => first | exact rfl | exact ⟨_, rfl⟩)
    (case q_group => k_is)
    (case r_group => first | exact rfl | exact ⟨_, rfl⟩)
    (case q_width => k_is)
    (case r_width => first | exact rfl | exact ⟨_, rfl⟩)
    (case a_Reader => k_is)
    (case cb_R => kernel_rfl)
    (case mk_R => kernel_rfl)
    (case kp_R => kernel_rfl)
    (case at_R_init => k_is)
    (case fn_R_init => kernel_rfl)
    (case l_R_init => k_is)
    (case c_R_init => k_is)
    (case k_R_init => k_is)
    (case at_R_fault => k_is)
    (case fn_R_fault => kernel_rfl)
    (case l_R_fault => k_is)
    (case c_R_fault => k_is)
    (case k_R_fault => k_is)
    (case at_R_entry => k_is)
    (case fn_R_entry => kernel_rfl)
    (case l_R_entry => k_is)
    (case c_R_entry => k_is)
    (case k_R_entry => k_is)
    (case at_R_within => k_is)
    (case fn_R_within => kernel_rfl)
    (case l_R_within => k_is)
    (case c_R_within => k_is)
    (case k_R_within => k_is)
    (case at_R_end => k_is)
    (case fn_R_end => kernel_rfl)
    (case l_R_end => k_is)
    (case c_R_end => k_is)
    (case k_R_end => k_is)
    (case at_R_add => k_is)
    (case fn_R_add => kernel_rfl)
    (case l_R_add => k_is)
    (case c_R_add => k_is)
    (case k_R_add => k_is)
    (case na_entries => k_is)
    (case na_log => k_is)
    (case na_lines => k_is)
    (case na_known => k_is)
#print axioms PySem.Challenge.cw_handedtext_k40_papers_holds
