import PyProof.Rows.All
import Wide.All
import OpenK.AllK
import Wide.FinOn
import HandS.ForMost
import HandS.ForExc
import HandS.Wide
import HandS.Gcd
import HandS.IsInst
import HandS.ExcIs
import HandS.Codes
import HandS.SortRule
import HandS.Deep
import KE.DataMinMax
import HandS.Conv
import HandS.SortInts
import KE.KDictWalk
import KE.KDictCopyH
import KE.KDictOf
import HandS.DictTup
import HandS.DictComp
import KE.SortData
import KE.DataCmp
import HandS.TupAny
import HandS.SortKw
import PySem.Challenge.RW_postmead_k32_ratios_turned
set_option Elab.async false
set_option linter.all false
set_option maxRecDepth 100000
set_option maxHeartbeats 4000000
namespace My
open PySem PySem.Spec PyProof.Rows L2
/-! ### readings: small steps -/
local macro_rules | `(tactic| walk_at "rd") => `(tactic| repeat (first
  | refine ⟨_, rfl, ?_⟩
  | refine ⟨_, _, rfl, rfl, ?_⟩
  | refine ⟨.inr ⟨by decide, by decide⟩, ?_⟩
  | refine ⟨by decide, ?_⟩))
theorem op_fdivX {X : Cx} : OpR X (binaryOp .FloorDiv) (rI (fun _ j => j ≠ 0 ∧ j.natAbs.log2 < 9000) fun i j => .int (i.fdiv j)) :=
  opI fun _ _ _ _ _ _ _ hc q => floordiv_int hc.1 q (.inl (PyProof.noPylong_of_log2 hc.2))
theorem op_mulU {X : Cx} : OpR X (binaryOp .Mult) (rI IntMulOk fun i j => .int (i * j)) := opI fun _ _ _ _ _ _ _ hc q => mul_int q hc
theorem mulL {i j : Int} (h0 : -(2 ^ 64) < i) (h1 : i < 2 ^ 64) : IntMulOk i j := CMul.ok (.inl ⟨h0, h1⟩)
theorem mulR {i j : Int} (h0 : -(2 ^ 64) < j) (h1 : j < 2 ^ 64) : IntMulOk i j := CMul.ok (.inr ⟨h0, h1⟩)
theorem nd {p : Prop} [Decidable p] (h : ¬ decide p = true) : ¬ p := fun hp => h (decide_eq_true hp)
theorem zc_of {cls : Value} {d : Option Addr} {C : Addr} {oe : Obj} (h : Zc cls d oe) (e : cls = .ref C ∧ d = none) : Zc (.ref C) none oe := by
  obtain ⟨e1, e2⟩ := e
  rw [← e1, ← e2]
  exact h
theorem same_new {H : Hp} {p : Addr} {o : HO} (h : H p = none) : Same H (upd H p o) := fun b x e => by
  rw [upd_ne (ne_of_none e h)]
  exact e
theorem same_put {H H' : Hp} {p : Addr} {o : HO} (s : Same H H') (h : H p = none) : Same H (upd H' p o) := fun b x e => by
  rw [upd_ne (ne_of_none e h)]
  exact s _ _ e
theorem log_small {n b : Nat} (h0 : 0 < b) (h : n < 2 ^ b) (h9 : b ≤ 9000) : n.log2 < 9000 := Nat.lt_of_lt_of_le (PySem.Flt.log2_lt_of h0 h) h9
theorem pss_guard {X : Cx} {b : List Stmt} {t : TS} {P : Prop} (h : P → PSs X b t) : PSs X b (fun D σ H => P ∧ t D σ H) :=
  ⟨fun pins s σ H D I q => (h q.1).run pins s σ H D I q.2⟩
def topS (i : Nat) : Stmt := PySem.Challenge.pw_postmead_k32_ratios_turned.main.body.getD i (.Pass ⟨0, 0, 0, 0⟩)
abbrev s_pair_of : Stmt := topS 6
theorem sc_pair_of : FnScope ["a", "b"] ["a", "b"] (defScope s_pair_of) := ⟨rfl, rfl, rfl, by decide +kernel, rfl, by decide +kernel, by decide +kernel⟩
abbrev s_sides : Stmt := topS 8
theorem sc_sides : FnScope ["n", "post"] ["n"] (defScope s_sides) := ⟨rfl, rfl, rfl, by decide +kernel, rfl, by decide +kernel, by decide +kernel⟩
abbrev s_ties : Stmt := topS 9
theorem sc_ties : FnScope ["n", "cut"] ["n", "cut"] (defScope s_ties) := ⟨rfl, rfl, rfl, by decide +kernel, rfl, by decide +kernel, by decide +kernel⟩
abbrev s_beside : Stmt := topS 10
theorem sc_beside : FnScope ["n", "cut", "a", "b", "tied", "post"] ["n", "cut", "a", "b"] (defScope s_beside) := ⟨rfl, rfl, rfl, by decide +kernel, rfl, by decide +kernel, by decide +kernel⟩
abbrev s_new_rope : Stmt := topS 11
theorem sc_new_rope : FnScope ["n", "cut", "a", "b"] ["n", "cut", "a", "b"] (defScope s_new_rope) := ⟨rfl, rfl, rfl, by decide +kernel, rfl, by decide +kernel, by decide +kernel⟩
abbrev s_lowest : Stmt := topS 14
theorem sc_lowest : FnScope ["top", "bottom", "divisor"] ["top", "bottom"] (defScope s_lowest) := ⟨rfl, rfl, rfl, by decide +kernel, rfl, by decide +kernel, by decide +kernel⟩
abbrev s_plus : Stmt := topS 15
theorem sc_plus : FnScope ["one", "other"] ["one", "other"] (defScope s_plus) := ⟨rfl, rfl, rfl, by decide +kernel, rfl, by decide +kernel, by decide +kernel⟩
abbrev s_times : Stmt := topS 16
theorem sc_times : FnScope ["one", "other"] ["one", "other"] (defScope s_times) := ⟨rfl, rfl, rfl, by decide +kernel, rfl, by decide +kernel, by decide +kernel⟩
abbrev s_over : Stmt := topS 17
theorem sc_over : FnScope ["one", "other"] ["one", "other"] (defScope s_over) := ⟨rfl, rfl, rfl, by decide +kernel, rfl, by decide +kernel, by decide +kernel⟩
abbrev s_ratio : Stmt := topS 19
theorem sc_ratio : FnScope ["n", "cut", "lengths", "a", "b", "forward", "backward"] ["n", "cut", "lengths", "a", "b"] (defScope s_ratio) := ⟨rfl, rfl, rfl, by decide +kernel, rfl, by decide +kernel, by decide +kernel⟩
abbrev s_ratios : Stmt := topS 20
theorem sc_ratios : FnScope ["n", "cut", "lengths", "a", "b"] ["n", "cut", "lengths"] (defScope s_ratios) := ⟨rfl, rfl, rfl, by decide +kernel, rfl, by decide +kernel, by decide +kernel⟩
abbrev s_turned_ratios : Stmt := topS 21
theorem sc_turned_ratios : FnScope ["n", "cut", "rates", "a", "b", "forward", "backward", "old", "rate", "more", "made", "near", "factor", "tie", "rope"] ["n", "cut", "rates", "a", "b"] (defScope s_turned_ratios) := ⟨rfl, rfl, rfl, by decide +kernel, rfl, by decide +kernel, by decide +kernel⟩
abbrev s_ties_round : Stmt := topS 22
theorem sc_ties_round : FnScope ["n", "cut", "a", "b", "low", "high", "one", "other", "between", "beyond", "forward", "backward"] ["n", "cut", "a", "b"] (defScope s_ties_round) := ⟨rfl, rfl, rfl, by decide +kernel, rfl, by decide +kernel, by decide +kernel⟩
abbrev s_product_of : Stmt := topS 23
theorem sc_product_of : FnScope ["lengths", "pair", "one", "other"] ["lengths", "pair"] (defScope s_product_of) := ⟨rfl, rfl, rfl, by decide +kernel, rfl, by decide +kernel, by decide +kernel⟩
abbrev s_laid : Stmt := topS 25
theorem sc_laid : FnScope ["n", "cut", "lengths", "a", "b", "new", "old", "found", "tie"] ["n", "cut", "lengths", "a", "b"] (defScope s_laid) := ⟨rfl, rfl, rfl, by decide +kernel, rfl, by decide +kernel, by decide +kernel⟩
abbrev s_across : Stmt := topS 26
theorem sc_across : FnScope ["lengths", "rope", "pair", "a", "b", "c", "d", "one", "other"] ["lengths", "rope", "pair"] (defScope s_across) := ⟨rfl, rfl, rfl, by decide +kernel, rfl, by decide +kernel, by decide +kernel⟩
abbrev s__law_flow : Stmt := topS 28
theorem sc__law_flow : FnScope ["_law_script", "_law_many_here", "_law_great", "_law_row", "_law_k", "_law_cell", "_law_mixed"] ["_law_script", "_law_many_here"] (defScope s__law_flow) := ⟨rfl, rfl, rfl, by decide +kernel, rfl, by decide +kernel, by decide +kernel⟩
abbrev s__law_whole : Stmt := topS 29
theorem sc__law_whole : FnScope ["_law_found"] ["_law_found"] (defScope s__law_whole) := ⟨rfl, rfl, rfl, by decide +kernel, rfl, by decide +kernel, by decide +kernel⟩
abbrev s__law_low : Stmt := topS 30
theorem sc__law_low : FnScope ["_law_top", "_law_bottom", "_law_one", "_law_other"] ["_law_top", "_law_bottom"] (defScope s__law_low) := ⟨rfl, rfl, rfl, by decide +kernel, rfl, by decide +kernel, by decide +kernel⟩
abbrev s__law_add : Stmt := topS 31
theorem sc__law_add : FnScope ["_law_one", "_law_other"] ["_law_one", "_law_other"] (defScope s__law_add) := ⟨rfl, rfl, rfl, by decide +kernel, rfl, by decide +kernel, by decide +kernel⟩
abbrev s__law_mul : Stmt := topS 32
theorem sc__law_mul : FnScope ["_law_one", "_law_other"] ["_law_one", "_law_other"] (defScope s__law_mul) := ⟨rfl, rfl, rfl, by decide +kernel, rfl, by decide +kernel, by decide +kernel⟩
abbrev s__law_div : Stmt := topS 33
theorem sc__law_div : FnScope ["_law_one", "_law_other"] ["_law_one", "_law_other"] (defScope s__law_div) := ⟨rfl, rfl, rfl, by decide +kernel, rfl, by decide +kernel, by decide +kernel⟩
abbrev s__law_part : Stmt := topS 34
theorem sc__law_part : FnScope ["_law_found"] ["_law_found"] (defScope s__law_part) := ⟨rfl, rfl, rfl, by decide +kernel, rfl, by decide +kernel, by decide +kernel⟩
abbrev s__law_size : Stmt := topS 35
theorem sc__law_size : FnScope ["_law_one"] ["_law_one"] (defScope s__law_size) := ⟨rfl, rfl, rfl, by decide +kernel, rfl, by decide +kernel, by decide +kernel⟩
abbrev s__law_many : Stmt := topS 36
theorem sc__law_many : FnScope ["_law_row"] ["_law_row"] (defScope s__law_many) := ⟨rfl, rfl, rfl, by decide +kernel, rfl, by decide +kernel, by decide +kernel⟩
abbrev s__law_pair : Stmt := topS 37
theorem sc__law_pair : FnScope ["_law_a", "_law_b"] ["_law_a", "_law_b"] (defScope s__law_pair) := ⟨rfl, rfl, rfl, by decide +kernel, rfl, by decide +kernel, by decide +kernel⟩
abbrev s__law_ears : Stmt := topS 38
theorem sc__law_ears : FnScope ["_law_n", "_law_row", "_law_k", "_law_left", "_law_ears_here"] ["_law_n", "_law_row"] (defScope s__law_ears) := ⟨rfl, rfl, rfl, by decide +kernel, rfl, by decide +kernel, by decide +kernel⟩
abbrev s__law_ropes : Stmt := topS 39
theorem sc__law_ropes : FnScope ["_law_ears_here", "_law_ear"] ["_law_ears_here"] (defScope s__law_ropes) := ⟨rfl, rfl, rfl, by decide +kernel, rfl, by decide +kernel, by decide +kernel⟩
abbrev s__law_sides : Stmt := topS 40
theorem sc__law_sides : FnScope ["_law_n", "_law_k"] ["_law_n"] (defScope s__law_sides) := ⟨rfl, rfl, rfl, by decide +kernel, rfl, by decide +kernel, by decide +kernel⟩
abbrev s__law_ties : Stmt := topS 41
theorem sc__law_ties : FnScope ["_law_n", "_law_cut"] ["_law_n", "_law_cut"] (defScope s__law_ties) := ⟨rfl, rfl, rfl, by decide +kernel, rfl, by decide +kernel, by decide +kernel⟩
abbrev s__law_sized : Stmt := topS 42
theorem sc__law_sized : FnScope ["_law_all_ties", "_law_row", "_law_sized_here", "_law_k", "_law_at"] ["_law_all_ties", "_law_row"] (defScope s__law_sized) := ⟨rfl, rfl, rfl, by decide +kernel, rfl, by decide +kernel, by decide +kernel⟩
abbrev s__law_beside : Stmt := topS 43
theorem sc__law_beside : FnScope ["_law_n", "_law_all_ties", "_law_a", "_law_b", "_law_found", "_law_post"] ["_law_n", "_law_all_ties", "_law_a", "_law_b"] (defScope s__law_beside) := ⟨rfl, rfl, rfl, by decide +kernel, rfl, by decide +kernel, by decide +kernel⟩
abbrev s__law_turned : Stmt := topS 44
theorem sc__law_turned : FnScope ["_law_n", "_law_cut", "_law_rope", "_law_ends", "_law_one"] ["_law_n", "_law_cut", "_law_rope"] (defScope s__law_turned) := ⟨rfl, rfl, rfl, by decide +kernel, rfl, by decide +kernel, by decide +kernel⟩
abbrev s__law_tuple : Stmt := topS 45
theorem sc__law_tuple : FnScope ["_law_found", "_law_many_here", "_law_one"] ["_law_found", "_law_many_here"] (defScope s__law_tuple) := ⟨rfl, rfl, rfl, by decide +kernel, rfl, by decide +kernel, by decide +kernel⟩
abbrev s__law_dict : Stmt := topS 46
theorem sc__law_dict : FnScope ["_law_found", "_law_due_here", "_law_tie", "_law_length"] ["_law_found", "_law_due_here"] (defScope s__law_dict) := ⟨rfl, rfl, rfl, by decide +kernel, rfl, by decide +kernel, by decide +kernel⟩
abbrev s__law_ring : Stmt := topS 47
theorem sc__law_ring : FnScope ["_law_n", "_law_cut", "_law_rope", "_law_ends"] ["_law_n", "_law_cut", "_law_rope"] (defScope s__law_ring) := ⟨rfl, rfl, rfl, by decide +kernel, rfl, by decide +kernel, by decide +kernel⟩
abbrev s__law_ratio : Stmt := topS 48
theorem sc__law_ratio : FnScope ["_law_n", "_law_cut", "_law_sized_here", "_law_rope", "_law_ring_here", "_law_one", "_law_other"] ["_law_n", "_law_cut", "_law_sized_here", "_law_rope"] (defScope s__law_ratio) := ⟨rfl, rfl, rfl, by decide +kernel, rfl, by decide +kernel, by decide +kernel⟩
abbrev s__law_ratios : Stmt := topS 49
theorem sc__law_ratios : FnScope ["_law_n", "_law_cut", "_law_sized_here", "_law_made", "_law_rope"] ["_law_n", "_law_cut", "_law_sized_here"] (defScope s__law_ratios) := ⟨rfl, rfl, rfl, by decide +kernel, rfl, by decide +kernel, by decide +kernel⟩
abbrev s__law_wild : Stmt := topS 50
theorem sc__law_wild : FnScope ["_law_n", "_law_one"] ["_law_n", "_law_one"] (defScope s__law_wild) := ⟨rfl, rfl, rfl, by decide +kernel, rfl, by decide +kernel, by decide +kernel⟩
abbrev s__law_due : Stmt := topS 51
theorem sc__law_due : FnScope ["_law_n", "_law_cut", "_law_rates", "_law_rope", "_law_ring_here", "_law_old", "_law_made", "_law_k", "_law_tie", "_law_factor"] ["_law_n", "_law_cut", "_law_rates", "_law_rope"] (defScope s__law_due) := ⟨rfl, rfl, rfl, by decide +kernel, rfl, by decide +kernel, by decide +kernel⟩
abbrev s_law : Stmt := topS 52
theorem sc_law : FnScope ["_law_script", "_law_row", "_law_n", "_law_cut", "_law_sized_here", "_law_rates", "_law_free", "_law_k", "_law_rope", "_law_good", "_law_handed", "_law_ropes_here", "_law_found", "e", "_law_late", "_law_fresh", "_law_behind", "_law_one"] ["_law_script"] (defScope s_law) := ⟨rfl, rfl, rfl, by decide +kernel, rfl, by decide +kernel, by decide +kernel⟩
structure Env (K : PySem.W.Frag) (mg : Str → Option Value) where
  C_MeadError : Addr
  c_MeadError : mg "MeadError" = some (.ref C_MeadError)
  x_MeadError : PySem.W.excIn K C_MeadError [.type "ValueError", .type "Exception", .type "BaseException", .type "object"] "ValueError.__new__" = true
  k_MeadError : PySem.W.keepIn K (.ref C_MeadError) = true
  bs_MeadError : PySem.W.subIn K (.ref C_MeadError) (.type "BaseException") = some true
  ty_MeadError : PySem.W.typeIn K (.ref C_MeadError) = some (.type "type")
  e_MeadError : ExcC K C_MeadError
  C_NoFraction : Addr
  c_NoFraction : mg "NoFraction" = some (.ref C_NoFraction)
  x_NoFraction : PySem.W.excIn K C_NoFraction [.type "ValueError", .type "Exception", .type "BaseException", .type "object"] "ValueError.__new__" = true
  k_NoFraction : PySem.W.keepIn K (.ref C_NoFraction) = true
  bs_NoFraction : PySem.W.subIn K (.ref C_NoFraction) (.type "BaseException") = some true
  ty_NoFraction : PySem.W.typeIn K (.ref C_NoFraction) = some (.type "type")
  e_NoFraction : ExcC K C_NoFraction
  C_NoRope : Addr
  c_NoRope : mg "NoRope" = some (.ref C_NoRope)
  x_NoRope : PySem.W.excIn K C_NoRope [.type "ValueError", .type "Exception", .type "BaseException", .type "object"] "ValueError.__new__" = true
  k_NoRope : PySem.W.keepIn K (.ref C_NoRope) = true
  bs_NoRope : PySem.W.subIn K (.ref C_NoRope) (.type "BaseException") = some true
  ty_NoRope : PySem.W.typeIn K (.ref C_NoRope) = some (.type "type")
  e_NoRope : ExcC K C_NoRope
  sub_NoRope_MeadError : PySem.W.subIn K (.ref C_NoRope) (.ref C_MeadError) = some true
  kit_NoRope_NoRope : PySem.W.kitOne K (.ref C_NoRope) (.ref C_NoRope) = some true
  a_pair_of : Addr
  fd_pair_of : FuncData
  F_pair_of : Fun K "pair_of" "pair_of" s_pair_of a_pair_of fd_pair_of
  g_pair_of : mg "pair_of" = some (.ref a_pair_of)
  b_pair_of : Binds K fd_pair_of ["a", "b"] []
  a_sides : Addr
  fd_sides : FuncData
  F_sides : Fun K "sides" "sides" s_sides a_sides fd_sides
  g_sides : mg "sides" = some (.ref a_sides)
  b_sides : Binds K fd_sides ["n"] []
  a_ties : Addr
  fd_ties : FuncData
  F_ties : Fun K "ties" "ties" s_ties a_ties fd_ties
  g_ties : mg "ties" = some (.ref a_ties)
  b_ties : Binds K fd_ties ["n", "cut"] []
  a_beside : Addr
  fd_beside : FuncData
  F_beside : Fun K "beside" "beside" s_beside a_beside fd_beside
  g_beside : mg "beside" = some (.ref a_beside)
  b_beside : Binds K fd_beside ["n", "cut", "a", "b"] []
  a_new_rope : Addr
  fd_new_rope : FuncData
  F_new_rope : Fun K "new_rope" "new_rope" s_new_rope a_new_rope fd_new_rope
  g_new_rope : mg "new_rope" = some (.ref a_new_rope)
  b_new_rope : Binds K fd_new_rope ["n", "cut", "a", "b"] []
  a_lowest : Addr
  fd_lowest : FuncData
  F_lowest : Fun K "lowest" "lowest" s_lowest a_lowest fd_lowest
  g_lowest : mg "lowest" = some (.ref a_lowest)
  b_lowest : Binds K fd_lowest ["top", "bottom"] []
  a_plus : Addr
  fd_plus : FuncData
  F_plus : Fun K "plus" "plus" s_plus a_plus fd_plus
  g_plus : mg "plus" = some (.ref a_plus)
  b_plus : Binds K fd_plus ["one", "other"] []
  a_times : Addr
  fd_times : FuncData
  F_times : Fun K "times" "times" s_times a_times fd_times
  g_times : mg "times" = some (.ref a_times)
  b_times : Binds K fd_times ["one", "other"] []
  a_over : Addr
  fd_over : FuncData
  F_over : Fun K "over" "over" s_over a_over fd_over
  g_over : mg "over" = some (.ref a_over)
  b_over : Binds K fd_over ["one", "other"] []
  a_ratio : Addr
  fd_ratio : FuncData
  F_ratio : Fun K "ratio" "ratio" s_ratio a_ratio fd_ratio
  g_ratio : mg "ratio" = some (.ref a_ratio)
  b_ratio : Binds K fd_ratio ["n", "cut", "lengths", "a", "b"] []
  a_ratios : Addr
  fd_ratios : FuncData
  F_ratios : Fun K "ratios" "ratios" s_ratios a_ratios fd_ratios
  g_ratios : mg "ratios" = some (.ref a_ratios)
  b_ratios : Binds K fd_ratios ["n", "cut", "lengths"] []
  a_turned_ratios : Addr
  fd_turned_ratios : FuncData
  F_turned_ratios : Fun K "turned_ratios" "turned_ratios" s_turned_ratios a_turned_ratios fd_turned_ratios
  g_turned_ratios : mg "turned_ratios" = some (.ref a_turned_ratios)
  b_turned_ratios : Binds K fd_turned_ratios ["n", "cut", "rates", "a", "b"] []
  a_ties_round : Addr
  fd_ties_round : FuncData
  F_ties_round : Fun K "ties_round" "ties_round" s_ties_round a_ties_round fd_ties_round
  g_ties_round : mg "ties_round" = some (.ref a_ties_round)
  b_ties_round : Binds K fd_ties_round ["n", "cut", "a", "b"] []
  a_product_of : Addr
  fd_product_of : FuncData
  F_product_of : Fun K "product_of" "product_of" s_product_of a_product_of fd_product_of
  g_product_of : mg "product_of" = some (.ref a_product_of)
  b_product_of : Binds K fd_product_of ["lengths", "pair"] []
  a_laid : Addr
  fd_laid : FuncData
  F_laid : Fun K "laid" "laid" s_laid a_laid fd_laid
  g_laid : mg "laid" = some (.ref a_laid)
  b_laid : Binds K fd_laid ["n", "cut", "lengths", "a", "b"] []
  a_across : Addr
  fd_across : FuncData
  F_across : Fun K "across" "across" s_across a_across fd_across
  g_across : mg "across" = some (.ref a_across)
  b_across : Binds K fd_across ["lengths", "rope", "pair"] []
  a__law_flow : Addr
  fd__law_flow : FuncData
  F__law_flow : Fun K "_law_flow" "_law_flow" s__law_flow a__law_flow fd__law_flow
  g__law_flow : mg "_law_flow" = some (.ref a__law_flow)
  b__law_flow : Binds K fd__law_flow ["_law_script", "_law_many_here"] []
  a__law_whole : Addr
  fd__law_whole : FuncData
  F__law_whole : Fun K "_law_whole" "_law_whole" s__law_whole a__law_whole fd__law_whole
  g__law_whole : mg "_law_whole" = some (.ref a__law_whole)
  b__law_whole : Binds K fd__law_whole ["_law_found"] []
  a__law_low : Addr
  fd__law_low : FuncData
  F__law_low : Fun K "_law_low" "_law_low" s__law_low a__law_low fd__law_low
  g__law_low : mg "_law_low" = some (.ref a__law_low)
  b__law_low : Binds K fd__law_low ["_law_top", "_law_bottom"] []
  a__law_add : Addr
  fd__law_add : FuncData
  F__law_add : Fun K "_law_add" "_law_add" s__law_add a__law_add fd__law_add
  g__law_add : mg "_law_add" = some (.ref a__law_add)
  b__law_add : Binds K fd__law_add ["_law_one", "_law_other"] []
  a__law_mul : Addr
  fd__law_mul : FuncData
  F__law_mul : Fun K "_law_mul" "_law_mul" s__law_mul a__law_mul fd__law_mul
  g__law_mul : mg "_law_mul" = some (.ref a__law_mul)
  b__law_mul : Binds K fd__law_mul ["_law_one", "_law_other"] []
  a__law_div : Addr
  fd__law_div : FuncData
  F__law_div : Fun K "_law_div" "_law_div" s__law_div a__law_div fd__law_div
  g__law_div : mg "_law_div" = some (.ref a__law_div)
  b__law_div : Binds K fd__law_div ["_law_one", "_law_other"] []
  a__law_part : Addr
  fd__law_part : FuncData
  F__law_part : Fun K "_law_part" "_law_part" s__law_part a__law_part fd__law_part
  g__law_part : mg "_law_part" = some (.ref a__law_part)
  b__law_part : Binds K fd__law_part ["_law_found"] []
  a__law_size : Addr
  fd__law_size : FuncData
  F__law_size : Fun K "_law_size" "_law_size" s__law_size a__law_size fd__law_size
  g__law_size : mg "_law_size" = some (.ref a__law_size)
  b__law_size : Binds K fd__law_size ["_law_one"] []
  a__law_many : Addr
  fd__law_many : FuncData
  F__law_many : Fun K "_law_many" "_law_many" s__law_many a__law_many fd__law_many
  g__law_many : mg "_law_many" = some (.ref a__law_many)
  b__law_many : Binds K fd__law_many ["_law_row"] []
  a__law_pair : Addr
  fd__law_pair : FuncData
  F__law_pair : Fun K "_law_pair" "_law_pair" s__law_pair a__law_pair fd__law_pair
  g__law_pair : mg "_law_pair" = some (.ref a__law_pair)
  b__law_pair : Binds K fd__law_pair ["_law_a", "_law_b"] []
  a__law_ears : Addr
  fd__law_ears : FuncData
  F__law_ears : Fun K "_law_ears" "_law_ears" s__law_ears a__law_ears fd__law_ears
  g__law_ears : mg "_law_ears" = some (.ref a__law_ears)
  b__law_ears : Binds K fd__law_ears ["_law_n", "_law_row"] []
  a__law_ropes : Addr
  fd__law_ropes : FuncData
  F__law_ropes : Fun K "_law_ropes" "_law_ropes" s__law_ropes a__law_ropes fd__law_ropes
  g__law_ropes : mg "_law_ropes" = some (.ref a__law_ropes)
  b__law_ropes : Binds K fd__law_ropes ["_law_ears_here"] []
  a__law_sides : Addr
  fd__law_sides : FuncData
  F__law_sides : Fun K "_law_sides" "_law_sides" s__law_sides a__law_sides fd__law_sides
  g__law_sides : mg "_law_sides" = some (.ref a__law_sides)
  b__law_sides : Binds K fd__law_sides ["_law_n"] []
  a__law_ties : Addr
  fd__law_ties : FuncData
  F__law_ties : Fun K "_law_ties" "_law_ties" s__law_ties a__law_ties fd__law_ties
  g__law_ties : mg "_law_ties" = some (.ref a__law_ties)
  b__law_ties : Binds K fd__law_ties ["_law_n", "_law_cut"] []
  a__law_sized : Addr
  fd__law_sized : FuncData
  F__law_sized : Fun K "_law_sized" "_law_sized" s__law_sized a__law_sized fd__law_sized
  g__law_sized : mg "_law_sized" = some (.ref a__law_sized)
  b__law_sized : Binds K fd__law_sized ["_law_all_ties", "_law_row"] []
  a__law_beside : Addr
  fd__law_beside : FuncData
  F__law_beside : Fun K "_law_beside" "_law_beside" s__law_beside a__law_beside fd__law_beside
  g__law_beside : mg "_law_beside" = some (.ref a__law_beside)
  b__law_beside : Binds K fd__law_beside ["_law_n", "_law_all_ties", "_law_a", "_law_b"] []
  a__law_turned : Addr
  fd__law_turned : FuncData
  F__law_turned : Fun K "_law_turned" "_law_turned" s__law_turned a__law_turned fd__law_turned
  g__law_turned : mg "_law_turned" = some (.ref a__law_turned)
  b__law_turned : Binds K fd__law_turned ["_law_n", "_law_cut", "_law_rope"] []
  a__law_tuple : Addr
  fd__law_tuple : FuncData
  F__law_tuple : Fun K "_law_tuple" "_law_tuple" s__law_tuple a__law_tuple fd__law_tuple
  g__law_tuple : mg "_law_tuple" = some (.ref a__law_tuple)
  b__law_tuple : Binds K fd__law_tuple ["_law_found", "_law_many_here"] []
  a__law_dict : Addr
  fd__law_dict : FuncData
  F__law_dict : Fun K "_law_dict" "_law_dict" s__law_dict a__law_dict fd__law_dict
  g__law_dict : mg "_law_dict" = some (.ref a__law_dict)
  b__law_dict : Binds K fd__law_dict ["_law_found", "_law_due_here"] []
  a__law_ring : Addr
  fd__law_ring : FuncData
  F__law_ring : Fun K "_law_ring" "_law_ring" s__law_ring a__law_ring fd__law_ring
  g__law_ring : mg "_law_ring" = some (.ref a__law_ring)
  b__law_ring : Binds K fd__law_ring ["_law_n", "_law_cut", "_law_rope"] []
  a__law_ratio : Addr
  fd__law_ratio : FuncData
  F__law_ratio : Fun K "_law_ratio" "_law_ratio" s__law_ratio a__law_ratio fd__law_ratio
  g__law_ratio : mg "_law_ratio" = some (.ref a__law_ratio)
  b__law_ratio : Binds K fd__law_ratio ["_law_n", "_law_cut", "_law_sized_here", "_law_rope"] []
  a__law_ratios : Addr
  fd__law_ratios : FuncData
  F__law_ratios : Fun K "_law_ratios" "_law_ratios" s__law_ratios a__law_ratios fd__law_ratios
  g__law_ratios : mg "_law_ratios" = some (.ref a__law_ratios)
  b__law_ratios : Binds K fd__law_ratios ["_law_n", "_law_cut", "_law_sized_here"] []
  a__law_wild : Addr
  fd__law_wild : FuncData
  F__law_wild : Fun K "_law_wild" "_law_wild" s__law_wild a__law_wild fd__law_wild
  g__law_wild : mg "_law_wild" = some (.ref a__law_wild)
  b__law_wild : Binds K fd__law_wild ["_law_n", "_law_one"] []
  a__law_due : Addr
  fd__law_due : FuncData
  F__law_due : Fun K "_law_due" "_law_due" s__law_due a__law_due fd__law_due
  g__law_due : mg "_law_due" = some (.ref a__law_due)
  b__law_due : Binds K fd__law_due ["_law_n", "_law_cut", "_law_rates", "_law_rope"] []
  a_law : Addr
  fd_law : FuncData
  F_law : Fun K "law" "law" s_law a_law fd_law
  g_law : mg "law" = some (.ref a_law)
  b_law : Binds K fd_law ["_law_script"] []
  m_abs : mg "abs" = none
  m_bool : mg "bool" = none
  m_dict : mg "dict" = none
  m_int : mg "int" = none
  m_isinstance : mg "isinstance" = none
  m_len : mg "len" = none
  m_list : mg "list" = none
  m_max : mg "max" = none
  m_min : mg "min" = none
  m_range : mg "range" = none
  m_sorted : mg "sorted" = none
  m_tuple : mg "tuple" = none
  o_ONE : Addr
  m_ONE : mg "ONE" = some (.ref o_ONE)
  l_ONE : ∃ (oc : Option Addr) (n : Nat) (sl : Array (Option Value)) (t0 t1 : Tok), K.lookup o_ONE = some ⟨.type "tuple", oc, .seq #[.int 1 t0, .int 1 t1] n, sl⟩
  m_gcd : mg "gcd" = some (.builtin "math.gcd")
section
variable {P : Program} {w : World} {K : PySem.W.Frag} {mg : Str → Option Value} {base : Heap}

/-! ### the row of numbers that the script makes -/
def rowOk (rs : List Int) : Prop := ∀ v ∈ rs, 0 ≤ v ∧ v < 1000000
theorem rowOk_nil : rowOk [] := fun _ h => by cases h
theorem rowOk_add {rs : List Int} {v : Int} (h : rowOk rs) (h0 : 0 ≤ v) (h1 : v < 1000000) : rowOk (rs ++ [v]) := fun x hx => by
  rcases List.mem_append.mp hx with q | q
  · exact h x q
  · rw [List.mem_singleton.mp q]
    exact ⟨h0, h1⟩
def sp_flow (K : PySem.W.Frag) : Sp := fun vs H Q _ => ∃ (a : Addr) (ns : List Int) (m : Int), vs = [.ref a, .int m] ∧ SqL K H a (ns.map V.int) ∧ ns.length ≤ 63 ∧ 0 ≤ m ∧ m ≤ 1000 ∧
  ∀ H' p (rs : List Int), Same H H' → H p = none → rs.length = m.toNat → rowOk rs → H' p = some (.lst (rs.map V.int)) → Q (.ref p) H'
def flowInv (a : Addr) (m : Int) (p : Addr) (H : Hp) : Nat → L2.St → Hp → Prop := fun i σ H' => ∃ (g : Int) (rs : List Int) (k c x : Option V),
  σ = [some (.ref a), some (.int m), some (.int g), some (.ref p), k, c, x] ∧ Same H H' ∧ H' p = some (.lst (rs.map V.int)) ∧ rs.length = i ∧ rowOk rs
theorem mod_in (x : Int) : 0 ≤ x % 1000000 ∧ x % 1000000 < 1000000 := ⟨Int.emod_nonneg _ (by decide), Int.emod_lt_of_pos _ (by decide)⟩
theorem flow_turn {a p : Addr} {m g z : Int} {H H' : Hp} {i : Nat} {rs : List Int} {k c x : Option V} (hs : Same H H') (hp : H p = none) (hrl : rs.length = i) (hro : rowOk rs) :
    flowInv a m p H (i + 1) [some (.ref a), some (.int m), some (.int g), some (.ref p), k, c, x] (upd H' p (.lst (rs.map V.int ++ [V.int (z % 1000000)]))) := by
  refine ⟨g, rs ++ [z % 1000000], k, c, x, rfl, same_put hs hp, ?_, by rw [List.length_append, hrl]; rfl, rowOk_add hro (mod_in z).1 (mod_in z).2⟩
  rw [upd_same, List.map_append]; rfl
theorem mod_at {ns : List Int} (h : 0 < ns.length) (k : Nat) : ∃ z, atI (ns.map V.int) ((k : Int) % (ns.length : Int)) = some (.int z) := by
  have hk : k % ns.length < ns.length := Nat.mod_lt _ h
  refine ⟨ns[k % ns.length], ?_⟩
  rw [← Int.natCast_emod]
  refine atI_nat ?_
  rw [List.getElem?_map, List.getElem?_eq_getElem hk]
  rfl
theorem ok__law_flow (T : Env K mg) : FnOk P w K mg base CX0 1 T.a__law_flow T.fd__law_flow ["_law_script", "_law_many_here"] (sp_flow K) := by
  refine T.F__law_flow.ok sc__law_flow (fun vs H Q E h => ?_) (fun cdv A outer s H vs Q E hr h => ?_)
  · obtain ⟨a, ns, m, rfl, _⟩ := h
    rfl
  · obtain ⟨a, ns, m, rfl, hS, hl, hm0, hm1, q⟩ := h
    refine ⟨_, (pss_cons (ps_set (i := 2) sc__law_flow.nd rfl (.inl rfl) pe_int)
 (C8.pss_cut (ps_if (PW.pt (pw_and (pt_cmpR op_gt (pe_callB call_len_seq (by rfl) T.m_len (by decide +kernel) (pa_cons (pv 0) pa_nil)) pe_int (nomark _)) (pw_and1 (pt_cmpR op_ge (pe_callB call_abs (by rfl) T.m_abs (by decide +kernel) (pa_cons (pe_ix ix_list (pv 0) pe_int (fun _ _ => rfl)) pa_nil)) (pe_op op_pow pe_int pe_int) (nomark _)))))
 (pss_one (ps_set (i := 2) sc__law_flow.nd rfl (.inl rfl) (pe_op op_sub (pe_callB call_abs (by rfl) T.m_abs (by decide +kernel) (pa_cons (pe_ix ix_list (pv 0) pe_int (fun _ _ => rfl)) pa_nil)) (pe_op op_pow pe_int pe_int))))
 pss_nil)
 (pss_cons (ps_set (i := 3) sc__law_flow.nd rfl (.inl rfl) (pe_lst pa_nil))
 (pss_cons (ps_for PassesOwn.never rfl (pi_range1 (by rfl) T.m_range (pa_cons (pv 1) pa_nil)) (pg_name (i := 4) sc__law_flow.nd rfl (.inl rfl))
 (pss_one (ps_if (pt_cmpR op_gt (pv 2) pe_int (nomark _))
 (pss_cons (ps_expr (pe_bm PySem.F.plainAttrs_list PySem.F.slot_list_append PySem.F.type_list_append mt_append (pv 3) (pa_cons (pe_op op_mod (pv 2) pe_int) pa_nil)))
 (pss_one (ps_set (i := 2) sc__law_flow.nd rfl (.inl rfl) (pe_op op_fdiv (pv 2) pe_int))))
 (pss_cons (ps_set (i := 5) sc__law_flow.nd rfl (.inl rfl) (pe_op op_add (pv 4) pe_int))
 (C8.pss_cut (ps_if (pt_cmpR op_gt (pe_callB call_len_seq (by rfl) T.m_len (by decide +kernel) (pa_cons (pv 0) pa_nil)) pe_int (nomark _))
 (pss_one (ps_set (i := 5) sc__law_flow.nd rfl (.inl rfl) (pe_ix ix_list (pv 0) (pe_op op_mod (pv 4) (pe_callB call_len_seq (by rfl) T.m_len (by decide +kernel) (pa_cons (pv 0) pa_nil))) (fun _ _ => rfl))))
 pss_nil)
 (pss_cons (ps_set (i := 6) sc__law_flow.nd rfl (.inl rfl) (pe_op op_mod (pe_op op_add (pe_op op_add (pe_op op_mulU (pv 5) pe_int) (pe_op op_mulU (pv 4) pe_int)) pe_int) pe_int))
 (pss_cons (ps_set (i := 6) sc__law_flow.nd rfl (.inl rfl) (pe_op op_mod (pe_op op_add (pe_op op_add (pe_op op_mulU (pv 6) pe_int) (pe_op op_mulU (pv 4) pe_int)) (pe_callB call_len_seq (by rfl) T.m_len (by decide +kernel) (pa_cons (pv 0) pa_nil))) pe_int))
 (pss_one (ps_expr (pe_bm PySem.F.plainAttrs_list PySem.F.slot_list_append PySem.F.type_list_append mt_append (pv 3) (pa_cons (pe_op op_mod (pe_op op_fdiv (pv 6) pe_int) pe_int) pa_nil)))))))))))
 (pss_one (ps_ret (pv 3))))))), ?_⟩
    have hlen : (ns.map V.int).length = ns.length := List.length_map _
    refine ⟨fun σ' H' => ∃ g : Int, σ' = [some (.ref a), some (.int m), some (.int g), none, none, none, none] ∧ H = H', ?_, ?_⟩
    · refine ⟨_, rfl, _, _, rfl, .inl hS, _, _, rfl, rfl, _, rfl, ite2 (fun hd => ?_) (fun _ => ⟨_, rfl, rfl⟩)⟩
      have h0 : 0 < ns.length := by
        have := of_decide_eq_true hd
        rw [hlen] at this
        omega
      obtain ⟨z, hz⟩ := mod_at h0 0
      have hz0 : atI (ns.map V.int) 0 = some (.int z) := by
        have e : ((0 : Nat) : Int) % (ns.length : Int) = 0 := by simp
        rw [e] at hz
        exact hz
      refine ⟨_, rfl, a, _, _, _, rfl, rfl, hS, hz0, _, rfl, _, _, rfl, rfl, ⟨by decide, by decide, by decide⟩, _, _, rfl, rfl, _, rfl, ?_⟩
      refine ite2 (fun _ => ?_) (fun _ => ⟨_, rfl, rfl⟩)
      exact ⟨_, rfl, a, _, _, _, rfl, rfl, hS, hz0, _, rfl, _, _, rfl, rfl, ⟨by decide, by decide, by decide⟩, _, _, rfl, rfl, _, rfl, rfl⟩
    · rintro _ _ ⟨g, rfl, rfl⟩
      refine ⟨Nat.zero_le _, fun p hp => ?_⟩
      refine ⟨_, rfl, m, rfl, by omega, by omega, for_range (lo := 0) (n := m.toNat) (flowInv a m p H) ⟨g, [], none, none, none, rfl, same_new hp, upd_same, rfl, rowOk_nil⟩ ?_ ?_⟩
      · rintro i σ H' hi ⟨g, rs, k, c, x, rfl, hs, hpl, hrl, hro⟩
        have hA := hs.seq hS
        have hsz : (rs.map V.int).length < sizeLine := by rw [List.length_map]; exact small1000 (by omega)
        refine ⟨_, rfl, _, _, rfl, rfl, _, rfl, ite2 (fun _ => ?_) (fun _ => ?_)⟩
        · refine ⟨_, rfl, .inl ⟨rfl, _, .inl (.inl hpl)⟩, _, rfl, _, _, rfl, rfl, (by show (0 : Int) < _; decide), p, _, _, rfl, rfl, hpl, hsz, ?_⟩
          refine ⟨_, rfl, _, _, rfl, rfl, ⟨by decide, by decide⟩, ?_⟩
          exact flow_turn hs hp hrl hro
        · refine ⟨_, rfl, _, _, rfl, rfl, ?_⟩
          refine ⟨fun σ' H2 => ∃ cell : Int, σ' = [some (.ref a), some (.int m), some (.int g), some (.ref p), some (.int (0 + (i : Int))), some (.int cell), x] ∧ H' = H2, ?_, ?_⟩
          · refine ⟨_, rfl, _, _, rfl, .inl hA, _, _, rfl, rfl, _, rfl, ite2 (fun hd => ?_) (fun _ => ⟨_, rfl, rfl⟩)⟩
            have h0 : 0 < ns.length := by
              have := of_decide_eq_true hd
              rw [hlen] at this
              omega
            obtain ⟨z, hz⟩ := mod_at h0 i
            refine ⟨_, rfl, _, rfl, _, rfl, _, _, rfl, .inl hA, _, _, rfl, rfl, (by rw [hlen]; omega), a, _, _, .int z, rfl, rfl, hA, ?_, ⟨z, rfl, rfl⟩⟩
            rw [hlen, Int.zero_add]
            exact hz
          · rintro _ _ ⟨cell, rfl, rfl⟩
            refine ⟨_, rfl, _, _, rfl, rfl, mulR (by decide) (by decide), _, rfl, _, _, rfl, rfl, mulR (by decide) (by decide), _, _, rfl, rfl, _, _, rfl, rfl, _, _, rfl, rfl, (by show (0 : Int) < _; decide), ?_⟩
            refine ⟨_, rfl, _, _, rfl, rfl, mulR (by decide) (by decide), _, rfl, _, _, rfl, rfl, mulR (by decide) (by decide), _, _, rfl, rfl, _, rfl, _, _, rfl, .inl hA, _, _, rfl, rfl, _, _, rfl, rfl, (by show (0 : Int) < _; decide), ?_⟩
            refine ⟨_, rfl, .inl ⟨rfl, _, .inl (.inl hpl)⟩, _, rfl, _, _, rfl, rfl, ⟨by decide, by decide⟩, _, _, rfl, rfl, (by show (0 : Int) < _; decide), p, _, _, rfl, rfl, hpl, hsz, ?_⟩
            exact flow_turn hs hp hrl hro
      · rintro σ H' ⟨g, rs, k, c, x, rfl, hs, hpl, hrl, hro⟩
        exact ⟨_, rfl, q H' p rs hs hp hrl hro hpl⟩

/-! ### lists of pairs of whole numbers -/
inductive All2 {α β : Type} (R : α → β → Prop) : List α → List β → Prop
  | nil : All2 R [] []
  | cons {x : α} {y : β} {xs : List α} {ys : List β} : R x y → All2 R xs ys → All2 R (x :: xs) (y :: ys)
theorem All2.length {α β : Type} {R : α → β → Prop} {xs : List α} {ys : List β} (h : All2 R xs ys) : xs.length = ys.length := by
  induction h with
  | nil => rfl
  | cons _ _ ih => rw [List.length_cons, List.length_cons, ih]
theorem All2.mono {α β : Type} {R R' : α → β → Prop} {xs : List α} {ys : List β} (h : All2 R xs ys) (f : ∀ x y, R x y → R' x y) : All2 R' xs ys := by
  induction h with
  | nil => exact .nil
  | cons a _ ih => exact .cons (f _ _ a) ih
theorem All2.app {α β : Type} {R : α → β → Prop} {xs xs' : List α} {ys ys' : List β} (h : All2 R xs ys) (h' : All2 R xs' ys') : All2 R (xs ++ xs') (ys ++ ys') := by
  induction h with
  | nil => exact h'
  | cons a _ ih => exact .cons a ih
theorem All2.at {α β : Type} {R : α → β → Prop} {xs : List α} {ys : List β} (h : All2 R xs ys) : ∀ {i : Nat} {x : α}, xs[i]? = some x → ∃ y, ys[i]? = some y ∧ R x y := by
  induction h with
  | nil => intro i x e; cases e
  | cons a _ ih =>
    intro i x e
    cases i with
    | zero => obtain rfl := Option.some.inj e; exact ⟨_, rfl, a⟩
    | succ i => exact ih e
theorem All2.at' {α β : Type} {R : α → β → Prop} {xs : List α} {ys : List β} (h : All2 R xs ys) : ∀ {i : Nat} {y : β}, ys[i]? = some y → ∃ x, xs[i]? = some x ∧ R x y := by
  induction h with
  | nil => intro i x e; cases e
  | cons a _ ih =>
    intro i x e
    cases i with
    | zero => obtain rfl := Option.some.inj e; exact ⟨_, rfl, a⟩
    | succ i => exact ih e
theorem All2.take {α β : Type} {R : α → β → Prop} {xs : List α} {ys : List β} (h : All2 R xs ys) : ∀ i, All2 R (xs.take i) (ys.take i) := by
  induction h with
  | nil => intro i; rw [List.take_nil, List.take_nil]; exact .nil
  | cons a _ ih =>
    intro i
    cases i with
    | zero => exact .nil
    | succ i => exact .cons a (ih i)
theorem All2.drop {α β : Type} {R : α → β → Prop} {xs : List α} {ys : List β} (h : All2 R xs ys) : ∀ i, All2 R (xs.drop i) (ys.drop i) := by
  induction h with
  | nil => intro i; rw [List.drop_nil, List.drop_nil]; exact .nil
  | cons a t ih =>
    intro i
    cases i with
    | zero => exact .cons a t
    | succ i => exact ih i
theorem All2.one {α β : Type} {R : α → β → Prop} {x : α} {y : β} (h : R x y) : All2 R [x] [y] := .cons h .nil
def PrAt (K : PySem.W.Frag) (H : Hp) (x : V) (p : Int × Int) : Prop := ∃ t, x = V.ref t ∧ H t = some (.tup [.int p.1, .int p.2])
abbrev PrL (K : PySem.W.Frag) (H : Hp) (xs : List V) (l : List (Int × Int)) : Prop := All2 (PrAt K H) xs l
theorem PrAt.mono {H H' : Hp} {x : V} {p : Int × Int} (s : Same H H') (h : PrAt K H x p) : PrAt K H' x p := by
  obtain ⟨t, e, ht⟩ := h
  exact ⟨t, e, s _ _ ht⟩
theorem PrL.mono {H H' : Hp} {xs : List V} {l : List (Int × Int)} (s : Same H H') (h : PrL K H xs l) : PrL K H' xs l := All2.mono h fun _ _ q => q.mono s
/-- all tuples of H stand in H' -/
def TupS (H H' : Hp) : Prop := ∀ t xs, H t = some (.tup xs) → H' t = some (.tup xs)
theorem TupS.of {H H' : Hp} (s : Same H H') : TupS H H' := fun t xs e => s _ _ e
theorem TupS.trans {H H' H2 : Hp} (s : TupS H H') (s' : TupS H' H2) : TupS H H2 := fun t xs e => s' _ _ (s _ _ e)
theorem TupS.put {H : Hp} {p : Addr} {xs : List V} {o : HO} (h : H p = some (.lst xs)) : TupS H (upd H p o) := fun t ys e => by
  rw [upd_ne (ne_of e h (fun z => nomatch z))]
  exact e
theorem PrL.tups {H H' : Hp} {xs : List V} {l : List (Int × Int)} (s : TupS H H') (h : PrL K H xs l) : PrL K H' xs l := All2.mono h fun _ _ ⟨t, e, ht⟩ => ⟨t, e, s _ _ ht⟩
theorem PrAt.sq {H : Hp} {x : V} {p : Int × Int} (h : PrAt K H x p) : ∃ t, x = V.ref t ∧ SqT K H t [.int p.1, .int p.2] := by
  obtain ⟨t, e, ht⟩ := h
  exact ⟨t, e, .inl (.inl ht)⟩
/-! pairs in order -/
def le2 (p q : Int × Int) : Prop := p.1 < q.1 ∨ (p.1 = q.1 ∧ p.2 ≤ q.2)
instance (p q : Int × Int) : Decidable (le2 p q) := by unfold le2; exact inferInstance
theorem le2_anti {p q : Int × Int} (h : le2 p q) (h' : le2 q p) : p = q := by
  unfold le2 at h h'
  exact Prod.ext (by omega) (by omega)
theorem le2_total (p q : Int × Int) : le2 p q ∨ le2 q p := by unfold le2; omega
theorem le2_trans {p q r : Int × Int} (h : le2 p q) (h' : le2 q r) : le2 p r := by unfold le2 at *; omega
def sort2 (l : List (Int × Int)) : List (Int × Int) := l.mergeSort fun p q => decide (le2 p q)
theorem sort2_perm (l : List (Int × Int)) : (sort2 l).Perm l := List.mergeSort_perm _ _
theorem sort2_sorted (l : List (Int × Int)) : (sort2 l).Pairwise le2 := by
  have := List.pairwise_mergeSort (le := fun p q => decide (le2 p q)) (fun a b c h1 h2 => decide_eq_true (le2_trans (of_decide_eq_true h1) (of_decide_eq_true h2)))
    (fun a b => by rcases le2_total a b with h | h <;> simp [h]) l
  exact this.imp fun h => of_decide_eq_true h
theorem sort2_uniq {l m : List (Int × Int)} (h1 : m.Perm l) (h2 : m.Pairwise le2) : m = sort2 l :=
  List.Perm.eq_of_pairwise (le := le2) (fun _ _ _ _ => le2_anti) h2 (sort2_sorted l) (h1.trans (sort2_perm l).symm)
theorem sort2_self {l : List (Int × Int)} (h : l.Pairwise le2) : sort2 l = l := (sort2_uniq (List.Perm.refl _) h).symm
theorem sort2_mem {l : List (Int × Int)} {p : Int × Int} : p ∈ sort2 l ↔ p ∈ l := (sort2_perm l).mem_iff
theorem sort2_len (l : List (Int × Int)) : (sort2 l).length = l.length := (sort2_perm l).length_eq
theorem sort2_eq {l m : List (Int × Int)} (h : l.Perm m) : sort2 l = sort2 m := sort2_uniq ((sort2_perm l).trans h) (sort2_sorted l)
theorem sort2_nodup {l : List (Int × Int)} (h : l.Nodup) : (sort2 l).Nodup := (sort2_perm l).nodup_iff.mpr h
/-! sorted -/
def kOf (H : Hp) : V → Int × Int
  | .ref t => match H t with
    | some (.tup [.int i, .int j]) => (i, j)
    | _ => (0, 0)
  | _ => (0, 0)
theorem PrAt.k {H : Hp} {x : V} {p : Int × Int} (h : PrAt K H x p) : kOf H x = p := by
  obtain ⟨t, rfl, ht⟩ := h
  show (match H t with | some (.tup [.int i, .int j]) => (i, j) | _ => (0, 0)) = p
  rw [ht]
theorem PrL.k {H : Hp} {xs : List V} {l : List (Int × Int)} (h : PrL K H xs l) : xs.map (kOf H) = l := by
  induction h with
  | nil => rfl
  | cons a _ ih => rw [List.map_cons, a.k, ih]
theorem PrL.mem {H : Hp} {xs : List V} {l : List (Int × Int)} (h : PrL K H xs l) : ∀ x ∈ xs, PrAt K H x (kOf H x) := by
  induction h with
  | nil => intro x hx; cases hx
  | cons a _ ih =>
    intro x hx
    rcases List.mem_cons.mp hx with e | hx
    · subst e; rw [a.k]; exact a
    · exact ih x hx
theorem PrL.of_k {H : Hp} : ∀ {ys : List V}, (∀ x ∈ ys, PrAt K H x (kOf H x)) → PrL K H ys (ys.map (kOf H))
  | [], _ => .nil
  | y :: ys, h => .cons (h y (List.mem_cons_self ..)) (PrL.of_k fun x hx => h x (List.mem_cons_of_mem _ hx))
def rSort2 (K : PySem.W.Frag) : List V → Hp → VK → Prop := fun vs H Q => ∃ (a : Addr) (xs : List V) (l : List (Int × Int)), vs = [V.ref a] ∧ SqL K H a xs ∧ PrL K H xs l ∧
  ∀ ys p, PrL K H ys (sort2 l) → H p = none → Q (.ref p) (upd H p (.lst ys))
theorem cr_sort2 {X : Cx} : CallR X (.builtin "sorted") (rSort2 X.K) := by
  intro pins s σ H vs us Q I r h
  obtain ⟨a, xs, l, rfl, hs, hP, q⟩ := h
  refine cr_sortedPO pins s σ H _ us Q I r ⟨a, xs, kOf H, rfl, hs, fun x hx => hP.mem x hx, fun ys p h1 h2 hp => q ys p ?_ hp⟩
  have hm := PrL.of_k (K := X.K) (H := H) (ys := ys) fun x hx => hP.mem x (h2.perm.mem_iff.mp hx)
  have e : ys.map (kOf H) = sort2 l := by
    refine sort2_uniq ?_ ?_
    · rw [← hP.k]; exact h2.perm.map _
    · rw [List.pairwise_map]
      refine List.Pairwise.imp (fun {x y} h => ?_) h1
      have := SrtO.lexB_no.mp h
      unfold le2
      omega
  rw [e] at hm
  exact hm
/-! in, ==, != -/
def dat2 (p : Int × Int) : PyData := .tuple [.int p.1, .int p.2]
theorem dat2_eqv (p q : Int × Int) : PyData.eqv (dat2 p) (dat2 q) = decide (p = q) := by
  obtain ⟨a, b⟩ := p
  obtain ⟨c, d⟩ := q
  show PyData.eqvAll [.int a, .int b] [.int c, .int d] = _
  simp only [PyData.eqvAll, PyData.eqv, Bool.and_true]
  by_cases h1 : a = c <;> by_cases h2 : b = d <;> simp [h1, h2]
theorem dat2s_eqv : ∀ l m : List (Int × Int), PyData.eqvAll (l.map dat2) (m.map dat2) = decide (l = m)
  | [], [] => by simp [PyData.eqvAll]
  | [], _ :: _ => by simp [PyData.eqvAll]
  | _ :: _, [] => by simp [PyData.eqvAll]
  | p :: l, q :: m => by
    rw [List.map_cons, List.map_cons, PySem.W.eqv_all_cons, dat2_eqv, dat2s_eqv l m]
    by_cases e : p = q
    · subst e; simp
    · simp [e]
theorem PrAt.dp {H : Hp} {x : V} {p : Int × Int} (h : PrAt K H x p) : Dp K H x (dat2 p) := by
  obtain ⟨t, rfl, ht⟩ := h
  exact .tup (.inl (.inl ht)) (.cons (.int _) (.cons (.int _) .nil))
theorem PrL.dp {H : Hp} {xs : List V} {l : List (Int × Int)} (h : PrL K H xs l) : DpAll K H xs (l.map dat2) := by
  induction h with
  | nil => exact .nil
  | cons a _ ih => exact .cons a.dp ih
theorem dat2_sh (p : Int × Int) : SeqAt.shaped (dat2 p) = true := rfl
theorem dat2_sh2 (l : List (Int × Int)) (h : l.length ≤ 200) : SeqAt.shaped (.list (l.map dat2)) = true := by
  have key : ∀ l : List (Int × Int), PyData.canLayAll0 (l.map dat2) = true ∧ PyData.depthAll (l.map dat2) ≤ 1 := by
    intro l
    induction l with
    | nil => exact ⟨rfl, by decide⟩
    | cons p l ih =>
      refine ⟨?_, ?_⟩
      · show (PyData.canLay0 (dat2 p) && PyData.canLayAll0 (l.map dat2)) = true
        rw [ih.1]; rfl
      · show max (PyData.depth (dat2 p)) (PyData.depthAll (l.map dat2)) ≤ 1
        have : PyData.depth (dat2 p) = 1 := rfl
        have := ih.2
        omega
  unfold SeqAt.shaped
  have h1 : PyData.canLay0 (.list (l.map dat2)) = true := by
    exact (key l).1
  have h2 : PyData.depth (.list (l.map dat2)) ≤ 64 := by
    have := (key l).2
    simp only [PyData.depth]
    omega
  rw [h1, decide_eq_true h2]
  rfl
theorem any_eqv (l : List (Int × Int)) (p : Int × Int) : ((l.map dat2).any fun z => PyData.eqv z (dat2 p)) = decide (p ∈ l) := by
  induction l with
  | nil => simp
  | cons q l ih =>
    rw [List.map_cons, List.any_cons, ih, dat2_eqv]
    by_cases e : q = p
    · subst e; simp
    · simp [e, Ne.symm e]
def rIn2 (K : PySem.W.Frag) (neg : Bool) : R2 := fun x y H Q => ∃ (p : Int × Int) (a : Addr) (xs : List V) (l : List (Int × Int)), PrAt K H x p ∧ y = .ref a ∧ SqL K H a xs ∧ PrL K H xs l ∧ l.length ≤ 200 ∧ Q (.bl (if neg then !decide (p ∈ l) else decide (p ∈ l))) H
section
variable {X : Cx}
theorem op_in2 (hu : X.A.units + 65 < cLine) : OpR X (compareOp .In) (rIn2 X.K false) := by
  intro pins s σ H x y v u Q I rx ry h
  obtain ⟨p, a, xs, l, hp, rfl, hs, hP, hl, q⟩ := h
  refine op_inD hu pins s σ H _ _ v u Q I rx ry ⟨_, _, hp.dp, .lst hs hP.dp, dat2_sh p, dat2_sh2 l hl, ?_⟩
  rw [any_eqv]
  exact q
theorem op_notIn2 (hu : X.A.units + 65 < cLine) : OpR X (compareOp .NotIn) (rIn2 X.K true) := by
  intro pins s σ H x y v u Q I rx ry h
  obtain ⟨p, a, xs, l, hp, rfl, hs, hP, hl, q⟩ := h
  refine op_notInD hu pins s σ H _ _ v u Q I rx ry ⟨_, _, hp.dp, .lst hs hP.dp, dat2_sh p, dat2_sh2 l hl, ?_⟩
  rw [any_eqv]
  exact q
def rEqL2 (K : PySem.W.Frag) (neg : Bool) : R2 := fun x y H Q => ∃ (a b : Addr) (xs ys : List V) (l m : List (Int × Int)), x = .ref a ∧ y = .ref b ∧ SqL K H a xs ∧ PrL K H xs l ∧ SqL K H b ys ∧ PrL K H ys m ∧ l.length ≤ 200 ∧ m.length ≤ 200 ∧ Q (.bl (if neg then !decide (l = m) else decide (l = m))) H
theorem op_eqL2 (hu : X.A.units + 64 < cLine) : OpR X (compareOp .Eq) (rEqL2 X.K false) := by
  intro pins s σ H x y v u Q I rx ry h
  obtain ⟨a, b, xs, ys, l, m, rfl, rfl, hs, hP, hs', hP', hl, hm, q⟩ := h
  refine op_eqD hu pins s σ H _ _ v u Q I rx ry ⟨_, _, .lst hs hP.dp, .lst hs' hP'.dp, dat2_sh2 l hl, dat2_sh2 m hm, ?_⟩
  show Q (.bl (PyData.eqvAll _ _)) H
  rw [dat2s_eqv]
  exact q
theorem op_neL2 (hu : X.A.units + 64 < cLine) : OpR X (compareOp .NotEq) (rEqL2 X.K true) := by
  intro pins s σ H x y v u Q I rx ry h
  obtain ⟨a, b, xs, ys, l, m, rfl, rfl, hs, hP, hs', hP', hl, hm, q⟩ := h
  refine op_neD hu pins s σ H _ _ v u Q I rx ry ⟨_, _, .lst hs hP.dp, .lst hs' hP'.dp, dat2_sh2 l hl, dat2_sh2 m hm, ?_⟩
  show Q (.bl (!PyData.eqvAll _ _)) H
  rw [dat2s_eqv]
  exact q
def rEqP2 (K : PySem.W.Frag) (neg : Bool) : R2 := fun x y H Q => ∃ (p q : Int × Int), PrAt K H x p ∧ PrAt K H y q ∧ Q (.bl (if neg then !decide (p = q) else decide (p = q))) H
theorem op_eqP2 (hu : X.A.units + 64 < cLine) : OpR X (compareOp .Eq) (rEqP2 X.K false) := by
  intro pins s σ H x y v u Q I rx ry h
  obtain ⟨p, q, hp, hq, k⟩ := h
  refine op_eqD hu pins s σ H _ _ v u Q I rx ry ⟨_, _, hp.dp, hq.dp, dat2_sh p, dat2_sh q, ?_⟩
  rw [dat2_eqv]
  exact k
theorem op_neP2 (hu : X.A.units + 64 < cLine) : OpR X (compareOp .NotEq) (rEqP2 X.K true) := by
  intro pins s σ H x y v u Q I rx ry h
  obtain ⟨p, q, hp, hq, k⟩ := h
  refine op_neD hu pins s σ H _ _ v u Q I rx ry ⟨_, _, hp.dp, hq.dp, dat2_sh p, dat2_sh q, ?_⟩
  rw [dat2_eqv]
  exact k
end
theorem Room.units2 {k : Nat} {A : Around} (r : Room k A) : A.units + 65 < cLine := by have := r.un; omega

/-! ### min, max of a tuple of two whole numbers -/
section
variable {X : Cx}
def rMin2T (K : PySem.W.Frag) (f : Int → Int → Int) : List V → Hp → VK → Prop := fun vs H Q => ∃ (a : Addr) (i j : Int), vs = [V.ref a] ∧ SqT K H a [.int i, .int j] ∧ Q (.int (f i j)) H
theorem tup_of {h : Heap} {a : Addr} {its : Array Value} (t : IsTup h a its) : h.IsTuple a its := t
theorem reads_int {h : Heap} {v : Value} {n : Int} {bs : List Addr} (r : Reads h v (.int n) bs) : ∃ t, v = .int n t := by
  cases r with
  | int => exact ⟨_, rfl⟩
theorem alike2 (i j : Int) : PySem.W.AlikeAll [.int i, .int j] := by
  refine ⟨fun x hx y hy => ?_, fun x hx => ?_⟩
  · simp only [List.mem_cons, List.not_mem_nil, or_false] at hx hy
    rcases hx with rfl | rfl <;> rcases hy with rfl | rfl <;> rfl
  · simp only [List.mem_cons, List.not_mem_nil, or_false] at hx
    rcases hx with rfl | rfl <;> exact fun z => nomatch z
theorem cr_min2T (hc : X.calm = true) (hu : X.A.units + 64 < cLine) : CallR X (.builtin "min") (rMin2T X.K min) := by
  intro pins s σ H vs us Q I r h
  obtain ⟨a, i, j, rfl, hs, q⟩ := h
  obtain ⟨its, rv, hl, _⟩ := I.tuple hs
  rw [Vals.ref1 r]
  obtain ⟨u1, u2, rfl, ⟨t1, e1⟩, ⟨t2, e2⟩⟩ := vals2 rv
  subst e1; subst e2
  refine PySem.W.min_tuple_data (x := .int i) (xs := [.int j]) (I.ok.hd hc) (tup_of hl) (.cons (Reads.int i t1) (.cons (Reads.int j t2) .nil)) (alike2 i j) ?_ fun k v h' tk bs hk hr hh => ?_
  · show X.A.units + 1 + 0 < cLine
    omega
  · have hm : PySem.W.minD (.int i) [.int j] = .int (min i j) := PySem.W.minD_ints i [j]
    rw [hm] at hr
    obtain ⟨t, rfl⟩ := reads_int hr
    exact ⟨.int _, H, I.kept hh, ⟨_, rfl⟩, q⟩
theorem cr_max2T (hc : X.calm = true) (hu : X.A.units + 64 < cLine) : CallR X (.builtin "max") (rMin2T X.K max) := by
  intro pins s σ H vs us Q I r h
  obtain ⟨a, i, j, rfl, hs, q⟩ := h
  obtain ⟨its, rv, hl, _⟩ := I.tuple hs
  rw [Vals.ref1 r]
  obtain ⟨u1, u2, rfl, ⟨t1, e1⟩, ⟨t2, e2⟩⟩ := vals2 rv
  subst e1; subst e2
  refine PySem.W.max_tuple_data (x := .int i) (xs := [.int j]) (I.ok.hd hc) (tup_of hl) (.cons (Reads.int i t1) (.cons (Reads.int j t2) .nil)) (alike2 i j) ?_ fun k v h' tk bs hk hr hh => ?_
  · show X.A.units + 1 + 0 < cLine
    omega
  · have hm : PySem.W.maxD (.int i) [.int j] = .int (max i j) := PySem.W.maxD_ints i [j]
    rw [hm] at hr
    obtain ⟨t, rfl⟩ := reads_int hr
    exact ⟨.int _, H, I.kept hh, ⟨_, rfl⟩, q⟩
end

/-! ### dicts with tuples as keys: walks over items and keys, len, dict(d) -/
section
variable {P : Program} {w : World} {K : PySem.W.Frag} {X : Cx}
theorem frzT2 {pins : List (Addr × Obj)} {σ : L2.St} {H : Hp} {s : Shared} {d : Addr} {o : Obj} {kvs : List (List Key × V)} (I : Inv X pins σ H s) (h : H d = some (.frz o (.dT kvs))) :
    (d == sysModules) = false ∧ s.heap.get? d = some o ∧ o.ExactDict ∧ ∃ (es : Array DictEntry) (ep : Nat), o.data = .dict es ep ∧ es.size = kvs.length ∧
      ∀ (i : Nat) (k : List Key) (v : V), kvs[i]? = some (k, v) → ∃ (en : DictEntry) (q : Addr), es[i]? = some en ∧ en.key = .ref q ∧ H q = some (.tup (k.map kV)) ∧ RelV v en.val := by
  obtain ⟨hd, z, hs, xs, pr, o', es, ep, ho, hx, hdt, he, _⟩ := I.hok d _ h
  rw [hd] at ho
  cases ho
  refine ⟨hs, hd, hx, es, ep, hdt, ?_, fun i k v e => ?_⟩
  · have l1 : es.size = xs.length := PySem.size_of_entries he
    have l2 : kvs.length = xs.length := Paired.length pr
    omega
  · obtain ⟨b, hb, e1, e2, e3⟩ := paired_get pr e
    have q := PySem.entry_at he i
    rw [hb] at q
    exact ⟨_, b.2.1, q, rfl, e2, e3⟩
/-- the pairs, each a new tuple -/
def ItiT (d : Addr) (o : Obj) (kvs : List (List Key × V)) : It :=
  ⟨fun i H => H d = some (.frz o (.dT kvs)) ∧ i < kvs.length, fun i H x H' => ∃ (T : Addr) (k : List Key) (v : V) (q : Addr), kvs[i]? = some (k, v) ∧ x = .ref T ∧ H T = none ∧ H q = some (.tup (k.map kV)) ∧ H' = upd H T (.tup [.ref q, v]), fun i H => H d = some (.frz o (.dT kvs)) ∧ kvs.length ≤ i⟩
theorem turn_itemsT {d : Addr} {o : Obj} {es : Array DictEntry} {ep : Nat} {kvs : List (List Key × V)} {elts : List Expr} {kk : Nat} {tpos : Pos} (it : Addr) (hod : o.data = .dict es ep) :
    Turn P w K (.Tuple elts kk tpos) (ItiT d o kvs) [it] it (fun i h => ∃ ok ov, IsItemIter h it d i kvs.length ep ok ov) where
  mem := by simp
  obj := fun i h st b hb => by
    have e : b = it := by simpa using hb
    subst e
    obtain ⟨ok, ov, e⟩ := st
    exact ⟨_, e, fun v z => nomatch z⟩
  keep := fun i h h' st k => let ⟨ok, ov, e⟩ := st; ⟨ok, ov, k it (by simp) _ e⟩
  item := by
    intro X hP hw hK hc i pins s σ H E I hf st hg
    subst hP hw hK
    obtain ⟨hd, hi⟩ := hg
    obtain ⟨hs, hgd, hx, es', ep', hdt, hsz, ent⟩ := frzT2 I hd
    obtain ⟨rfl, rfl⟩ := dict_ep hod hdt
    obtain ⟨⟨k, v⟩, hkv⟩ : ∃ p, kvs[i]? = some p := ⟨kvs[i], List.getElem?_eq_getElem hi⟩
    obtain ⟨en, q, hen, hkey, hq, rv⟩ := ent i k v hkv
    obtain ⟨ok, ov, he⟩ := st
    rw [← hsz] at he
    have hi' : i < es'.size := by omega
    have een : es'[i] = en := by rw [Array.getElem?_eq_getElem hi'] at hen; exact Option.some.inj hen
    have hlt : it < s.heap.objs.size := Heap.lt_size he
    refine wpAny_pyNext_items_item_raw he ⟨o, hgd, hx, hdt⟩ hi' fun h' ho hT hz hk => ?_
    rw [een, hkey] at ho hT
    refine ⟨_, rfl, wpAny_letOwnedTupleGo_items (s := { s with heap := h' }) ho fun h'' he' sb => ?_⟩
    have hT2 : h''.get? s.heap.objs.size = some { cls := .type "tuple", data := .seq #[.ref q, en.val] } := (sb.2 _ (Nat.ne_of_gt hlt)).trans hT
    have new : ObjOk X.prog X.w (upd H s.heap.objs.size (.tup [.ref q, v])) h'' s.heap.objs.size (.tup [.ref q, v]) :=
      ⟨by show 2 ≤ sizeLine; decide, [.ref q, en.val], .cons rfl (.cons rv .nil), ⟨_, hT2, rfl, _, rfl⟩⟩
    have I1 : Inv X pins σ (upd H s.heap.objs.size (.tup [.ref q, v])) { s with heap := h'' } :=
      I.turnedNew (t' := s.toks) (ch := [it]) (fun b ob hb e => (sb.2 b (by simpa using hb)).trans (hk b ob (by simpa using hb) e)) hf (Nat.le_refl _) new
    refine ⟨.ref s.heap.objs.size, _, I1, rfl, ⟨_, k, v, q, hkv, rfl, I.hok.fresh (Nat.le_refl _), hq, rfl⟩, ⟨.ref q, en.val, ?_⟩, fun b hb => ?_⟩
    · rw [← hsz]; exact he'
    · have e : b = it := by simpa using hb
      rw [e, upd_ne (Nat.ne_of_lt hlt)]
      exact (hf it (by simp)).1
  done := by
    intro X hP hw hK hc i pins s σ H E I hf st hg
    subst hP hw hK
    obtain ⟨hd, hi⟩ := hg
    obtain ⟨f0, f1, f2, f3, f4, f5⟩ := hf it (by simp)
    obtain ⟨hs, hgd, hx, es', ep', hdt, hsz, ent⟩ := frzT2 I hd
    obtain ⟨rfl, rfl⟩ := dict_ep hod hdt
    obtain ⟨ok, ov, he⟩ := st
    rw [← hsz] at he
    exact wpAny_pyNext_items_end_raw (I.ok.hd hc) he ⟨o, hgd, hx, hdt⟩ (by omega) fun h' eb => ⟨rfl, I.turned (t' := s.toks) (fun b ob hb e => eb b ob hb e) f0 f1 f3 f4 f5⟩
  self := fun A i s Q E st h => let ⟨_, _, e⟩ := st; PySem.W.kcp_self e h
def iItemsT (td : TE) : TI := fun σ H R => td σ H fun x H1 => ∃ d o kvs, x = .ref d ∧ H1 d = some (.frz o (.dT kvs)) ∧ R (ItiT d o kvs) H1
def iKeysMT (td : TE) : TI := fun σ H R => td σ H fun x H1 => ∃ d o kvs, x = .ref d ∧ H1 d = some (.frz o (.dT kvs)) ∧ R (Itkt d o kvs) H1
variable {tg e : Expr} {td : TE} {apos cpos : Pos}
theorem pi_itemsT {elts : List Expr} {kk : Nat} {tpos : Pos} (he : PE X e td) (hbase : attributeBase e "items" X.env (eval e X.env) = eval e X.env := by rfl) (hline : (apos.endLine == cpos.line) = true := by rfl) :
    PI X (.Tuple elts kk tpos) (.Call (.Attribute e "items" apos) [] [] cpos) (iItemsT td) := by
  refine ⟨fun pins s σ H R I h => ?_⟩
  refine wpAny_Call_method (T := "dict") (id := "dict.items") hbase rfl hline PySem.F.plainAttrs_dict PySem.F.slot_dict_items PySem.F.type_dict_items (thn (he.run pins s σ H _ I h) fun u s1 ⟨x, H1, I1, rx, d, o, kvs, ex, hd, q⟩ => ?_)
  subst ex
  obtain rfl : u = Value.ref d := rx
  obtain ⟨hs, hgd, hx, es, ep, hdt, hsz, ent⟩ := I1.frzT hd
  have raw : s1.heap.DictRaw d es ep := ⟨o, hgd, hx, hdt⟩
  refine ⟨raw.typeIs, fun b q => ?_, ?_⟩
  · cases q
    exact ⟨o, hgd, hx.2.1⟩
  have I2 : Inv X pins σ H1 { s1 with heap := s1.heap.push { cls := .type "dict_items", data := .fields #[.ref d] } } := I1.kept (t' := s1.toks) fun b ob q => Heap.get?_push_of_some _ q
  have fin : wpAny (model X.prog X.w) X.A (pyIter (.ref s1.heap.objs.size)) (PIE X pins σ (.Tuple elts kk tpos) R) X.xe { s1 with heap := s1.heap.push { cls := .type "dict_items", data := .fields #[.ref d] } } := by
    refine wpAny_pyIter_items_raw (d := d) (es := es) (ep := ep) ⟨_, Heap.get?_push_size _ rfl, rfl, rfl⟩ (raw.push _) (pi_one (tk := s1.toks) I2 _ (turn_itemsT _ hdt) ⟨.none, .none, ?_⟩ q)
    rw [← hsz]
    exact Heap.get?_push_size _ rfl
  show wpAny _ _ (callWith cpos (.builtin "dict.items") [.ref d] [] []) _ X.xe s1
  exact method_meetsIn PySem.F.slot_dict_items PySem.F.entry_dict_items rfl (PySem.evalArgs_none ⟨rfl, raw.typeIs, PySem.F.args_dict_items_1 _, _, meets_dict_items_raw d hs, ⟨⟨es, ep, raw⟩, fin⟩⟩)
theorem pi_keysMT (he : PE X e td) (hbase : attributeBase e "keys" X.env (eval e X.env) = eval e X.env := by rfl) (hline : (apos.endLine == cpos.line) = true := by rfl) : PI X tg (.Call (.Attribute e "keys" apos) [] [] cpos) (iKeysMT td) := by
  refine ⟨fun pins s σ H R I h => ?_⟩
  refine wpAny_Call_method (T := "dict") (id := "dict.keys") hbase rfl hline PySem.F.plainAttrs_dict PySem.F.slot_dict_keys PySem.F.type_dict_keys (thn (he.run pins s σ H _ I h) fun u s1 ⟨x, H1, I1, rx, d, o, kvs, ex, hd, q⟩ => ?_)
  subst ex
  obtain rfl : u = Value.ref d := rx
  obtain ⟨hs, hgd, hx, es, ep, hdt, hsz, ent⟩ := I1.frzT hd
  have raw : s1.heap.DictRaw d es ep := ⟨o, hgd, hx, hdt⟩
  refine ⟨raw.typeIs, fun b q => ?_, ?_⟩
  · cases q
    exact ⟨o, hgd, hx.2.1⟩
  have I2 : Inv X pins σ H1 { s1 with heap := s1.heap.push { cls := .type "dict_keys", data := .fields #[.ref d] } } := I1.kept (t' := s1.toks) fun b ob q => Heap.get?_push_of_some _ q
  have fin : wpAny (model X.prog X.w) X.A (pyIter (.ref s1.heap.objs.size)) (PIE X pins σ tg R) X.xe { s1 with heap := s1.heap.push { cls := .type "dict_keys", data := .fields #[.ref d] } } := by
    refine wpAny_pyIter_keys_raw (d := d) (es := es) (ep := ep) ⟨_, Heap.get?_push_size _ rfl, rfl, rfl⟩ (raw.push _) (pi_one (tk := s1.toks) I2 _ (turn_keysT _ hdt) ⟨_, Heap.get?_push_size _ rfl, rfl, ?_⟩ q)
    rw [hsz] <;> rfl
  show wpAny _ _ (callWith cpos (.builtin "dict.keys") [.ref d] [] []) _ X.xe s1
  exact method_meetsIn PySem.F.slot_dict_keys PySem.F.entry_dict_keys rfl (PySem.evalArgs_none ⟨rfl, raw.typeIs, PySem.F.args_dict_keys_1 _, _, meets_dict_keys_raw d hs, ⟨⟨es, ep, raw⟩, fin⟩⟩)
/-- len(d) -/
theorem len_rawT {s : Shared} {A : Around} {E : Value → Shared → Prop} {d : Addr} {es : Array DictEntry} {ep : Nat} {Q : Value → Shared → Prop} (hd : (d == sysModules) = false) (hm : s.heap.DictRaw d es ep) (hfit : (es.size : Int) < 2 ^ 63)
    (h : Q (.int es.size (s.toks + 1)) { s with toks := s.toks + 1 + 1 }) : wpAny (model P w) A (call (.builtin "len") [.ref d]) Q E s := by
  refine Calls.call_function_entry kind_len plain_len entry_len (args_len1 _) ?_
  unfold Builtin.«len»
  refine wpAny_bind (m := oneArg "len" _) (wpAny_pure ?_)
  refine wpAny_bind (m := callSpecial? (.ref d) (Str.ofString "__len__")) (wpAny_callSpecial?_slot (name := Str.ofString "__len__") hm.typeIs PySem.F.slot_dict_len
    (call_meetsIn PySem.F.slot_dict_len hm.typeIs PySem.F.entry_dict_len (PySem.F.args_dict_len_1 _) (meets_dict_len_raw d hd) ⟨es, ep, hm, ?_⟩))
  show wpAny _ _ _ _ _ { s with toks := s.toks + 1 }
  refine wpAny_bind (wpAny_holding (wpAny_pure ?_))
  refine wpAny_bind (wpAny_letGo ?_)
  show wpAny _ _ (if ((es.size : Nat) : Int) < 0 then _ else _) _ _ _
  rw [if_neg (by omega)]
  show wpAny _ _ (if ((es.size : Nat) : Int) ≥ 2 ^ 63 then _ else _) _ _ _
  rw [if_neg (by omega)]
  exact wpAny_bind (wpAny_mkInt (wpAny_pure ⟨_, rfl, h⟩))
theorem call_lenT : CallR X (.builtin "len") (fun xs H Q => ∃ a kvs, xs = [V.ref a] ∧ H a = some (.dT kvs) ∧ Q (.int kvs.length) H) := by
  intro pins s σ H xs us Q I r h
  obtain ⟨a, kvs, rfl, ha, q⟩ := h
  obtain ⟨u, rfl, ru⟩ := vals1 r
  cases ru
  obtain ⟨z, hs, xs, pr, o, es, ep, ho, hx, hdt, he, hn⟩ := (show ObjOk X.prog X.w H s.heap a (.dT kvs) from I.hok a _ ha)
  have l1 : es.size = xs.length := PySem.size_of_entries he
  have l2 : kvs.length = xs.length := Paired.length pr
  refine len_rawT hs ⟨o, ho, hx, hdt⟩ (by rw [sizeLine_eq] at z; omega) ?_
  rw [l1, ← l2]
  exact ⟨.int kvs.length, H, I.tok _, ⟨_, rfl⟩, q⟩
/-- dict(d) where no two keys hash alike -/
theorem dict_ofT {s : Shared} {A : Around} {E : Value → Shared → Prop} {κ : Type} [DecidableEq κ] {knd : HeapKind P w κ} {o : Addr} {more : List (κ × Addr × Value)} {Q : Value → Shared → Prop} (hu : knd.room A.in1.in1) (hoS : (o == sysModules) = false) (ho : s.heap.DictOfH knd o more)
    (hty : ∀ x ∈ more, s.TypeIs (.ref x.2.1) "tuple") (hap : (more.map fun x => knd.hash x.1).Nodup) (hsz : more.length ≤ sizeLine) (hst : ∀ o', ∀ x ∈ more, knd.is (s.heap.push o') x.1 x.2.1)
    (h : ∀ h', h'.DictOfH knd s.heap.objs.size more → Heap.SameBut s.heap.objs.size (s.heap.push { cls := .type "dict", data := .dict #[] }) h' → Q (.ref s.heap.objs.size) { s with heap := h' }) :
    wpAny (model P w) A (call (.type "dict") [.ref o]) Q E s := by
  refine callType_codes (Q₁ := fun obj s₁ => obj = .ref s.heap.objs.size ∧ s₁ = { s with heap := s.heap.push { cls := .type "dict", data := .dict #[] } }) PySem.F.kt_called_dict (PySem.F.kt_typeCall_dict_1 _) PySem.F.entry_dict_init (kt_code_dict_new _ ⟨rfl, rfl⟩) ?_
  rintro obj s₁ ⟨rfl, rfl⟩
  have hnew : (s.heap.push { cls := .type "dict", data := .dict #[] }).DictOfH knd s.heap.objs.size [] := ⟨_, #[], 0, Heap.get?_push_size _ rfl, ⟨rfl, rfl, rfl⟩, rfl, rfl, (fun x hx => nomatch hx), List.Pairwise.nil⟩
  have ho' : (s.heap.push { cls := .type "dict", data := .dict #[] }).DictOfH knd o more := ho.at' (fun b q => Heap.get?_push_of_some _ q) (hst _)
  have hdo : s.heap.objs.size ≠ o := fun e => absurd ho.lt_size (by rw [e]; exact Nat.lt_irrefl _)
  refine ⟨hnew.typeIs, PySem.F.args_dict_init_2 _ _, ?_⟩
  unfold Builtin.«dict.__init__»
  refine wpAny_bind ?_
  unfold Builtin.Dict.selfAndRest
  refine wpAny_bind (wpAny_notOrdered_dict hnew.typeIs ?_)
  show wpAny _ _ (pure (s.heap.objs.size, [Value.ref o])) _ _ _
  refine wpAny_pure ?_
  show wpAny _ _ (Builtin.Dict.updateFrom "dict.__init__" s.heap.objs.size (.ref o) [] .none) _ _ _
  unfold Builtin.Dict.updateFrom
  refine wpAny_bind (wpAny_typeOf ho'.typeIs ?_)
  rw [if_neg (by decide)]
  refine wpAny_bind ?_
  unfold Builtin.Dict.merge
  refine wpAny_bind ?_
  unfold Builtin.Dict.readDirectly
  refine wpAny_bind (wpAny_isInstance ho'.typeIs isSubtype_dict_dict ?_)
  simp only [Bool.not_true, Bool.false_eq_true, if_false]
  refine wpAny_bind (wpAny_specialOf ho'.typeIs PySem.F.slot_dict_iter.lookup (wpAny_pure ?_))
  simp only [beq_self_eq_true, if_true]
  refine wpAny_bind (wpAny_pure ?_)
  refine wpAny_mergeDict_heap (hsz := by simpa using hsz) hu hdo hoS hnew ho' (.inr ⟨fun x hx => let ⟨ob, e, c⟩ := hty x hx; ⟨ob, Heap.get?_push_of_some _ e, c⟩, hap⟩) fun h' hd' _ hs' => ?_
  show wpAny _ _ (Builtin.Dict.addKeywords s.heap.objs.size [] >>= _) _ _ _
  rw [storedAllH_nil_of_nodup more ho.nodup] at hd'
  exact wpAny_bind (wpAny_pure (wpAny_pure ⟨rfl, h h' hd' hs'⟩))
/-- the key of a pair -/
def pk (p : Int × Int) : List Key := [.inl p.1, .inl p.2]
theorem pk_inj {p q : Int × Int} (h : pk p = pk q) : p = q := by
  unfold pk at h
  injection h with h1 h2
  injection h2 with h2 _
  exact Prod.ext (Sum.inl.inj h1) (Sum.inl.inj h2)
def hashP (p : Int × Int) : Int := reduceHash (Builtin.Tuple.tupleHashOf [hashInt p.1, hashInt p.2])
theorem hash_pk (P : Program) (w : World) (p : Int × Int) : (tupleKind (mixKind P w)).hash (pk p) = hashP p := by
  show tupleKeyHash (mixKind P w) (pk p) = _
  unfold tupleKeyHash hashP pk
  rfl
def smallPs : List (Int × Int) := (List.range 169).map fun i => (((i / 13 : Nat) : Int), ((i % 13 : Nat) : Int))
theorem hashes_apart : (smallPs.map hashP).Nodup := by decide +kernel
theorem nodup_at {α : Type} {l : List α} (h : l.Nodup) {i j : Nat} {x : α} (hi : l[i]? = some x) (hj : l[j]? = some x) : i = j := by
  have li := (List.getElem?_eq_some_iff.mp hi)
  have lj := (List.getElem?_eq_some_iff.mp hj)
  obtain ⟨li, ei⟩ := li
  obtain ⟨lj, ej⟩ := lj
  exact (List.getElem_inj h).mp (ei.trans ej.symm)
def smallP (p : Int × Int) : Prop := 0 ≤ p.1 ∧ p.1 < 13 ∧ 0 ≤ p.2 ∧ p.2 < 13
theorem small_at {p : Int × Int} (h : smallP p) : smallPs[p.1.toNat * 13 + p.2.toNat]? = some p := by
  obtain ⟨h0, h1, h2, h3⟩ := h
  unfold smallPs
  have hl : p.1.toNat * 13 + p.2.toNat < 169 := by omega
  rw [List.getElem?_map, List.getElem?_range hl]
  refine congrArg some (Prod.ext ?_ ?_)
  · show (((p.1.toNat * 13 + p.2.toNat) / 13 : Nat) : Int) = _
    omega
  · show (((p.1.toNat * 13 + p.2.toNat) % 13 : Nat) : Int) = _
    omega
theorem hash_apart {p q : Int × Int} (hp : smallP p) (hq : smallP q) (h : hashP p = hashP q) : p = q := by
  have a := congrArg (Option.map hashP) (small_at hp)
  have b := congrArg (Option.map hashP) (small_at hq)
  rw [← List.getElem?_map] at a b
  have e := nodup_at hashes_apart a (b.trans (congrArg some h.symm))
  have ea := small_at hp
  rw [e] at ea
  exact Option.some.inj (ea.symm.trans (small_at hq))
theorem hashes_nodup {ps : List (Int × Int)} (hs : ∀ p ∈ ps, smallP p) (hn : ps.Nodup) : (ps.map hashP).Nodup := by
  refine List.pairwise_map.mpr (List.Pairwise.imp_of_mem (fun ha hb ne e => ne (hash_apart (hs _ ha) (hs _ hb) e)) hn)
theorem map_hash {κ α : Type} (f : κ → Int) (g : α → κ) (h : α → Int) (e : ∀ p, f (g p) = h p) : ∀ {ms : List (κ × Addr × Value)} {ps : List α}, ms.map (·.1) = ps.map g → ms.map (fun x => f x.1) = ps.map h
  | [], [], _ => rfl
  | m :: ms, p :: ps, q => by
    rw [List.map_cons, List.map_cons] at q
    injection q with q1 q2
    rw [List.map_cons, List.map_cons, map_hash f g h e q2, q1, e p]
theorem KT_keys {H : Hp} : ∀ {kvs : List (List Key × V)} {ms : List (List Key × Addr × Value)}, KT H kvs ms → ms.map (·.1) = kvs.map (·.1) := by
  intro kvs ms rel
  induction rel with
  | nil => rfl
  | cons h _ ih => rw [List.map_cons, List.map_cons, ih, h.1]
theorem KT_tups {H : Hp} {h : Heap} (ok : HOk P w H h) : ∀ {kvs : List (List Key × V)} {ms : List (List Key × Addr × Value)}, KT H kvs ms → ∀ x ∈ ms, H x.2.1 = some (.tup (x.1.map kV)) := by
  intro kvs ms rel
  induction rel with
  | nil => intro x hx; exact nomatch hx
  | cons h _ ih =>
    intro x hx
    rcases List.mem_cons.mp hx with e | hx
    · subst e
      rw [← h.1]
      exact h.2.1
    · exact ih x hx
theorem tup_cls {H : Hp} {h : Heap} (ok : HOk P w H h) {a : Addr} {xs : List V} (e : H a = some (.tup xs)) : ∃ o, h.get? a = some o ∧ o.cls = .type "tuple" := by
  obtain ⟨_, its, _, o, h1, h2, _⟩ := (show ObjOk P w H h a (.tup xs) from ok a _ e)
  exact ⟨o, h1, h2⟩

theorem call_dictT (hu : X.A.units + 64 < cLine) : CallR X (.type "dict") (fun xs H Q => ∃ (a : Addr) (kvs : List (List Key × V)) (ps : List (Int × Int)), xs = [.ref a] ∧ H a = some (.dT kvs) ∧ kvs.map (·.1) = ps.map pk ∧ ps.Nodup ∧ (∀ p ∈ ps, smallP p) ∧ ∀ p, H p = none → Q (.ref p) (upd H p (.dT kvs))) := by
  intro pins s σ H xs us Q I r q
  obtain ⟨a, kvs, ps, ex, hd, hk, hn, hs, q⟩ := q
  subst ex
  obtain ⟨u, eu, rx⟩ := vals1 r
  subst eu
  cases rx
  obtain ⟨z, lo, ms, rel, dd⟩ := dt_of I.hok hd
  have lm : kvs.length = ms.length := Paired.length rel
  have hm : (s.heap.objs.size == sysModules) = false := beq_eq_false_iff_ne.mpr (Nat.ne_of_gt I.big)
  have keys : ms.map (·.1) = ps.map pk := (KT_keys rel).trans hk
  have tups := KT_tups I.hok rel
  have hap : (ms.map fun x => (tupleKind (mixKind X.prog X.w)).hash x.1).Nodup := by
    rw [map_hash _ pk hashP (hash_pk X.prog X.w) keys]
    exact hashes_nodup hs hn
  refine dict_ofT (knd := tupleKind (mixKind X.prog X.w)) ?_ lo dd (fun x hx => tup_cls I.hok (tups x hx)) hap (by omega) (fun o' x hx => ?_) fun h' hd' hs' => ?_
  · show X.A.in1.in1.units < cLine
    rw [units_in1, units_in1]
    omega
  · obtain ⟨o, items, n, h1, h2, h3, h4⟩ := key_of I.hok (tups x hx)
    exact ⟨o, items, n, Heap.get?_push_of_some _ h1, h2, h3, h4⟩
  · obtain ⟨o, es, ep, h1, h2, h3, h4, _, h5⟩ := hd'
    refine ⟨.ref s.heap.objs.size, upd H s.heap.objs.size (.dT kvs), I.laid (t' := s.toks) (fun b u e => (hs'.2 b (Nat.ne_of_lt (Heap.lt_size e))).trans (Heap.get?_push_of_some _ e)) (Nat.le_refl _) ?_, rfl, q _ (I.hok.fresh (Nat.le_refl _))⟩
    refine ⟨z, hm, ms, rel.keeps fun c ys hc => ?_, o, es, ep, h1, h2, h3, h4, h5⟩
    rw [upd_ne (ne_of_none hc (I.hok.fresh (Nat.le_refl _)))]
    exact hc
theorem for_itemsT {d : Addr} {o : Obj} {kvs : List (List Key × V)} {g : TG} {tb : TS} {D : Ends} {σ : L2.St} {H : Hp} (Pv : Nat → L2.St → Hp → Prop) (h0 : Pv 0 σ H) (keep : ∀ i σ H, i ≤ kvs.length → Pv i σ H → H d = some (.frz o (.dT kvs)))
    (turn : ∀ i k v q T σ' H', kvs[i]? = some (k, v) → Pv i σ' H' → H' T = none → H' q = some (.tup (k.map kV)) → g (.ref T) σ' (upd H' T (.tup [.ref q, v])) fun σ2 H2 => tb { D with nx := Pv (i + 1), ct := Pv (i + 1), bk := D.nx } σ2 H2)
    (last : ∀ σ H, Pv kvs.length σ H → D.nx σ H) :
    ∃ W : Nat → Nat → L2.St → Hp → Prop, (∃ m, W 0 m σ H) ∧ ∀ i m σ H, W i m σ H →
      ((ItiT d o kvs).stop i H ∧ D.nx σ H) ∨ ((ItiT d o kvs).go i H ∧ ∃ N : L2.St → Hp → Prop, (∀ σ' H', N σ' H' → ∃ m', m' < m ∧ W (i + 1) m' σ' H') ∧ ∀ x H', (ItiT d o kvs).yld i H x H' → g x σ H' fun σ2 H2 => tb { D with nx := N, ct := N, bk := D.nx } σ2 H2) := by
  refine ⟨fun i m σ F => i + m = kvs.length ∧ Pv i σ F, ⟨kvs.length, Nat.zero_add _, h0⟩, fun i m σ F ⟨im, pv⟩ => ?_⟩
  have lst := keep i σ F (by omega) pv
  cases m with
  | zero =>
    obtain rfl : i = kvs.length := by omega
    exact .inl ⟨⟨lst, Nat.le_refl _⟩, last σ F pv⟩
  | succ m =>
    have lt : i < kvs.length := by omega
    refine .inr ⟨⟨lst, lt⟩, Pv (i + 1), fun σ' F' pv' => ⟨m, Nat.lt_succ_self m, by omega, pv'⟩, fun x F' yl => ?_⟩
    obtain ⟨T, k, v, q, hk, rfl, hT, hq, rfl⟩ := yl
    exact turn i k v q T σ F hk pv hT hq
theorem for_keysT {d : Addr} {o : Obj} {kvs : List (List Key × V)} {g : TG} {tb : TS} {D : Ends} {σ : L2.St} {H : Hp} (Pv : Nat → L2.St → Hp → Prop) (h0 : Pv 0 σ H) (keep : ∀ i σ H, i ≤ kvs.length → Pv i σ H → H d = some (.frz o (.dT kvs)))
    (turn : ∀ i k v q σ' H', kvs[i]? = some (k, v) → Pv i σ' H' → H' q = some (.tup (k.map kV)) → g (.ref q) σ' H' fun σ2 H2 => tb { D with nx := Pv (i + 1), ct := Pv (i + 1), bk := D.nx } σ2 H2)
    (last : ∀ σ H, Pv kvs.length σ H → D.nx σ H) :
    ∃ W : Nat → Nat → L2.St → Hp → Prop, (∃ m, W 0 m σ H) ∧ ∀ i m σ H, W i m σ H →
      ((Itkt d o kvs).stop i H ∧ D.nx σ H) ∨ ((Itkt d o kvs).go i H ∧ ∃ N : L2.St → Hp → Prop, (∀ σ' H', N σ' H' → ∃ m', m' < m ∧ W (i + 1) m' σ' H') ∧ ∀ x H', (Itkt d o kvs).yld i H x H' → g x σ H' fun σ2 H2 => tb { D with nx := N, ct := N, bk := D.nx } σ2 H2) := by
  refine ⟨fun i m σ F => i + m = kvs.length ∧ Pv i σ F, ⟨kvs.length, Nat.zero_add _, h0⟩, fun i m σ F ⟨im, pv⟩ => ?_⟩
  have lst := keep i σ F (by omega) pv
  cases m with
  | zero =>
    obtain rfl : i = kvs.length := by omega
    exact .inl ⟨⟨lst, Nat.le_refl _⟩, last σ F pv⟩
  | succ m =>
    have lt : i < kvs.length := by omega
    refine .inr ⟨⟨lst, lt⟩, Pv (i + 1), fun σ' F' pv' => ⟨m, Nat.lt_succ_self m, by omega, pv'⟩, fun x F' yl => ?_⟩
    obtain ⟨rfl, k, v, q, hk, rfl, hq⟩ := yl
    exact turn i k v q σ F' hk pv hq
/-- H with the dict at d locked, and unlocked again -/
theorem Same.unlock {H H' : Hp} {d : Addr} {x o : HO} (h : H d = some x) (s : Same (upd H d o) H') : Same H (upd H' d x) := fun b y e => by
  by_cases eb : b = d
  · subst eb
    rw [upd_same]
    exact h.symm.trans e
  · rw [upd_ne eb]
    exact s _ _ (by rw [upd_ne eb]; exact e)
end

/-! ### dicts from pairs to fractions -/
structure FD (K : PySem.W.Frag) (H : Hp) (a : Addr) (dom : List (Int × Int)) (f : Int × Int → Int × Int) : Prop where
  ex : ∃ kvs : List (List Key × V), H a = some (.dT kvs) ∧ All2 (fun kv p => kv.1 = pk p ∧ PrAt K H kv.2 (f p)) kvs dom
  nd : dom.Nodup
  sm : ∀ p ∈ dom, smallP p
/-- an entry row of a dict, told by its keys -/
abbrev Ents (K : PySem.W.Frag) (H : Hp) (kvs : List (List Key × V)) (dom : List (Int × Int)) (f : Int × Int → Int × Int) : Prop := All2 (fun kv p => kv.1 = pk p ∧ PrAt K H kv.2 (f p)) kvs dom
theorem Ents.tups {H H' : Hp} {kvs : List (List Key × V)} {dom : List (Int × Int)} {f : Int × Int → Int × Int} (s : TupS H H') (h : Ents K H kvs dom f) : Ents K H' kvs dom f := All2.mono h fun _ _ ⟨e, t, et, ht⟩ => ⟨e, t, et, s _ _ ht⟩
theorem FD.mono {H H' : Hp} {a : Addr} {dom : List (Int × Int)} {f : Int × Int → Int × Int} (s : Same H H') (h : FD K H a dom f) : FD K H' a dom f := by
  obtain ⟨⟨kvs, e, r⟩, nd, sm⟩ := h
  exact ⟨⟨kvs, s _ _ e, Ents.tups (TupS.of s) r⟩, nd, sm⟩
theorem Ents.get {H : Hp} {kvs : List (List Key × V)} {dom : List (Int × Int)} {f : Int × Int → Int × Int} (h : Ents K H kvs dom f) {p : Int × Int} (hp : p ∈ dom) : ∃ v, valV kvs (pk p) = some v ∧ PrAt K H v (f p) := by
  induction h with
  | nil => cases hp
  | @cons kv q xs ys h _ ih =>
    by_cases e : q = p
    · subst e
      exact ⟨kv.2, valV_pos h.1, h.2⟩
    · obtain ⟨v, e1, e2⟩ := ih ((List.mem_cons.mp hp).resolve_left (Ne.symm e))
      refine ⟨v, ?_, e2⟩
      rw [valV_neg (fun z => e (pk_inj (h.1.symm.trans z)))]
      exact e1
theorem Ents.not {H : Hp} {kvs : List (List Key × V)} {dom : List (Int × Int)} {f : Int × Int → Int × Int} (h : Ents K H kvs dom f) {p : Int × Int} (hp : p ∉ dom) : valV kvs (pk p) = none := by
  induction h with
  | nil => rfl
  | @cons kv q xs ys h _ ih =>
    rw [List.mem_cons, not_or] at hp
    rw [valV_neg (fun z => hp.1 (pk_inj (h.1.symm.trans z)).symm)]
    exact ih hp.2
theorem Ents.keys {H : Hp} {kvs : List (List Key × V)} {dom : List (Int × Int)} {f : Int × Int → Int × Int} (h : Ents K H kvs dom f) : kvs.map (·.1) = dom.map pk := by
  induction h with
  | nil => rfl
  | cons h _ ih => rw [List.map_cons, List.map_cons, ih, h.1]
theorem Ents.val {H : Hp} {kvs : List (List Key × V)} {dom : List (Int × Int)} {f g : Int × Int → Int × Int} (h : Ents K H kvs dom f) (e : ∀ p ∈ dom, f p = g p) : Ents K H kvs dom g := by
  induction h with
  | nil => exact .nil
  | @cons kv q xs ys h _ ih => exact .cons ⟨h.1, (e q (List.mem_cons_self ..)) ▸ h.2⟩ (ih fun p hp => e p (List.mem_cons_of_mem _ hp))
theorem FD.val {H : Hp} {a : Addr} {dom : List (Int × Int)} {f g : Int × Int → Int × Int} (h : FD K H a dom f) (e : ∀ p ∈ dom, f p = g p) : FD K H a dom g := by
  obtain ⟨⟨kvs, e1, r⟩, nd, sm⟩ := h
  exact ⟨⟨kvs, e1, Ents.val r e⟩, nd, sm⟩
theorem FD.nil {H : Hp} {a : Addr} {f : Int × Int → Int × Int} (h : H a = some (.dT [])) : FD K H a [] f := ⟨⟨[], h, .nil⟩, List.nodup_nil, fun _ h => nomatch h⟩
def setF (f : Int × Int → Int × Int) (p x : Int × Int) : Int × Int → Int × Int := fun q => if q = p then x else f q
/-- a new key -/
theorem FD.put {H : Hp} {a : Addr} {dom : List (Int × Int)} {f : Int × Int → Int × Int} {kvs : List (List Key × V)} {v : V} {p x : Int × Int} (nd : dom.Nodup) (sm : ∀ p ∈ dom, smallP p) (e : H a = some (.dT kvs)) (h : Ents K H kvs dom f) (hp : p ∉ dom) (hs : smallP p) (hv : PrAt K H v x) :
    FD K (upd H a (.dT (putK kvs (pk p) v))) a (dom ++ [p]) (setF f p x) := by
  rw [putK_new v (h.not hp)]
  have ts : TupS H (upd H a (.dT (kvs ++ [(pk p, v)]))) := fun t xs q => by
    rw [upd_ne (ne_of q e (fun z => nomatch z))]
    exact q
  refine ⟨⟨_, upd_same, ?_⟩, ?_, ?_⟩
  · refine All2.app (Ents.tups ts (Ents.val (g := setF f p x) h fun q hq => ?_)) (.one ⟨rfl, ?_⟩)
    · unfold setF
      rw [if_neg (fun (z : q = p) => hp (z ▸ hq))]
    · show PrAt K _ v (setF f p x p)
      unfold setF
      rw [if_pos rfl]
      obtain ⟨t, e1, e2⟩ := hv
      exact ⟨t, e1, ts _ _ e2⟩
  · rw [List.nodup_append]
    refine ⟨nd, by simp, fun u hu v hv => ?_⟩
    rw [List.mem_singleton.mp hv]
    exact fun (z : u = p) => hp (z ▸ hu)
  · intro q hq
    rcases List.mem_append.mp hq with z | z
    · exact sm q z
    · rw [List.mem_singleton.mp z]
      exact hs
/-- what stands but for the dict at a, which is new since H0 -/
theorem Same.newD {H0 H : Hp} {a : Addr} {o : HO} (s : Same H0 H) (h : H0 a = none) : Same H0 (upd H a o) := fun b x e => by
  rw [upd_ne (ne_of_none e h)]
  exact s _ _ e
theorem key_pk {H : Hp} {t : Addr} {p : Int × Int} (h : H t = some (.tup [.int p.1, .int p.2])) : H t = some (.tup ((pk p).map kV)) := h
theorem FD.few {H : Hp} {a : Addr} {dom : List (Int × Int)} {f : Int × Int → Int × Int} (h : FD K H a dom f) : ∃ kvs, H a = some (.dT kvs) ∧ kvs.length = dom.length := by
  obtain ⟨⟨kvs, e, r⟩, nd, sm⟩ := h
  exact ⟨kvs, e, r.length⟩
/-- a row of keys that hold the same has the same length -/
theorem dom_len {l m : List (Int × Int)} (h : l.Nodup) (k : m.Nodup) (e : ∀ p, p ∈ l ↔ p ∈ m) : l.length = m.length :=
  ((List.perm_ext_iff_of_nodup h k).mpr e).length_eq

/-! ### fractions in lowest terms: the mathematics -/
def lowI (t b : Int) : Int × Int := if b < 0 then ((-t) / ((Nat.gcd t.natAbs b.natAbs : Nat) : Int), (-b) / ((Nat.gcd t.natAbs b.natAbs : Nat) : Int)) else (t / ((Nat.gcd t.natAbs b.natAbs : Nat) : Int), b / ((Nat.gcd t.natAbs b.natAbs : Nat) : Int))
/-- lowest terms: x over y -/
structure Low (x y : Int) : Prop where
  pos : 0 < y
  one : Nat.gcd x.natAbs y.natAbs = 1
theorem lowI_pos {t b : Int} (h : 0 < b) : Low (lowI t b).1 (lowI t b).2 ∧ (lowI t b).1 * b = (lowI t b).2 * t ∧ (lowI t b).2 ≤ b ∧ (lowI t b).1.natAbs ≤ t.natAbs := by
  have hg : 0 < Nat.gcd t.natAbs b.natAbs := Nat.gcd_pos_of_pos_right _ (by omega)
  obtain ⟨x, hx⟩ := Nat.gcd_dvd_left t.natAbs b.natAbs
  obtain ⟨y, hy⟩ := Nat.gcd_dvd_right t.natAbs b.natAbs
  have e : lowI t b = (t / ((Nat.gcd t.natAbs b.natAbs : Nat) : Int), b / ((Nat.gcd t.natAbs b.natAbs : Nat) : Int)) := by
    unfold lowI
    rw [if_neg (by omega)]
  rw [e]
  generalize hgd : Nat.gcd t.natAbs b.natAbs = g at *
  have hg' : (g : Int) ≠ 0 := by omega
  have hb : b = (g : Int) * (y : Int) := by
    have : (b.natAbs : Int) = ((g * y : Nat) : Int) := by rw [← hy]
    rw [Int.natCast_mul] at this
    omega
  have eb : b / (g : Int) = (y : Int) := by rw [hb]; exact Int.mul_ediv_cancel_left _ hg'
  have hy0 : 0 < y := by
    rcases Nat.eq_zero_or_pos y with q | q
    · rw [q, Int.ofNat_zero, Int.mul_zero] at hb; omega
    · exact q
  have ht : t = (g : Int) * (if t < 0 then -(x : Int) else (x : Int)) := by
    have : (t.natAbs : Int) = ((g * x : Nat) : Int) := by rw [← hx]
    rw [Int.natCast_mul] at this
    split
    · rw [Int.mul_neg]; omega
    · omega
  have et : t / (g : Int) = (if t < 0 then -(x : Int) else (x : Int)) := by
    conv => lhs; rw [ht]
    exact Int.mul_ediv_cancel_left _ hg'
  have hcop : Nat.gcd x y = 1 := by
    have h1 : Nat.gcd (g * x) (g * y) = g * Nat.gcd x y := Nat.gcd_mul_left g x y
    rw [← hx, ← hy, hgd] at h1
    have h2 : g * 1 = g * Nat.gcd x y := by rw [Nat.mul_one]; exact h1
    exact (Nat.eq_of_mul_eq_mul_left hg h2).symm
  rw [eb, et]
  have hna : (if t < 0 then -(x : Int) else (x : Int)).natAbs = x := by split <;> omega
  refine ⟨⟨by omega, ?_⟩, ?_, ?_, ?_⟩
  · rw [hna, Int.natAbs_natCast]; exact hcop
  · have := ht
    generalize (if t < 0 then -(x : Int) else (x : Int)) = x' at *
    show x' * b = (y : Int) * t
    rw [hb, ht, Int.mul_left_comm x', Int.mul_left_comm (y : Int), Int.mul_comm x']
  · rw [hb]
    have : (1 : Int) * (y : Int) ≤ (g : Int) * (y : Int) := Int.mul_le_mul_of_nonneg_right (by omega) (by omega)
    omega
  · show (if t < 0 then -(x : Int) else (x : Int)).natAbs ≤ t.natAbs
    rw [hna, hx]
    exact Nat.le_mul_of_pos_left x hg
theorem lowI_neg {t b : Int} (h : b < 0) : lowI t b = lowI (-t) (-b) := by
  unfold lowI
  rw [if_pos h, if_neg (show ¬ (-b < 0) by omega), Int.natAbs_neg, Int.natAbs_neg]
theorem lowI_ok {t b : Int} (h : b ≠ 0) : Low (lowI t b).1 (lowI t b).2 ∧ (lowI t b).1 * b = (lowI t b).2 * t ∧ (lowI t b).2.natAbs ≤ b.natAbs ∧ (lowI t b).1.natAbs ≤ t.natAbs := by
  by_cases hb : 0 < b
  · obtain ⟨h1, h2, h3, h4⟩ := lowI_pos (t := t) hb
    exact ⟨h1, h2, by have := h1.pos; omega, h4⟩
  · have hn : b < 0 := by omega
    obtain ⟨h1, h2, h3, h4⟩ := lowI_pos (t := -t) (b := -b) (by omega)
    rw [← lowI_neg hn] at h1 h2 h3 h4
    refine ⟨h1, ?_, by have := h1.pos; omega, by rw [Int.natAbs_neg] at h4; exact h4⟩
    rw [Int.mul_neg, Int.mul_neg] at h2
    omega
theorem lowI_self {x y : Int} (h : Low x y) : lowI x y = (x, y) := by
  unfold lowI
  have := h.pos
  rw [if_neg (by omega), h.one]
  simp
/-- two in lowest terms that are worth the same are the same -/
theorem low_same {x y u v : Int} (h : Low x y) (k : Low u v) (e : x * v = u * y) : x = u ∧ y = v := by
  have hy := h.pos
  have hv := k.pos
  have e' : x.natAbs * v.natAbs = u.natAbs * y.natAbs := by rw [← Int.natAbs_mul, ← Int.natAbs_mul, e]
  have d1 : y.natAbs ∣ v.natAbs := by
    have : y.natAbs ∣ x.natAbs * v.natAbs := by rw [e']; exact Nat.dvd_mul_left _ _
    exact (Nat.Coprime.symm (show Nat.Coprime x.natAbs y.natAbs from h.one)).dvd_of_dvd_mul_left this
  have d2 : v.natAbs ∣ y.natAbs := by
    have : v.natAbs ∣ u.natAbs * y.natAbs := by rw [← e']; exact Nat.dvd_mul_left _ _
    exact (Nat.Coprime.symm (show Nat.Coprime u.natAbs v.natAbs from k.one)).dvd_of_dvd_mul_left this
  have ey : y.natAbs = v.natAbs := Nat.dvd_antisymm d1 d2
  have eyv : y = v := by omega
  subst eyv
  exact ⟨Int.eq_of_mul_eq_mul_right (by omega) e, rfl⟩
theorem fdiv_lowN {t g : Int} (hg : 0 < g) : t.fdiv (-g) = (-t) / g := by
  have e : t.fdiv (-g) = (-(-t)).fdiv (-g) := by rw [Int.neg_neg]
  rw [e, Int.neg_fdiv_neg, Int.fdiv_eq_ediv_of_nonneg _ (by omega)]
theorem fdiv_lowP {t g : Int} (hg : 0 < g) : t.fdiv g = t / g := Int.fdiv_eq_ediv_of_nonneg _ (by omega)
theorem gcd_log {t b : Int} (h : b ≠ 0) (hb : b.natAbs.log2 < 9000) : ((Nat.gcd t.natAbs b.natAbs : Nat) : Int).natAbs.log2 < 9000 := by
  rw [Int.natAbs_natCast]
  have h1 : Nat.gcd t.natAbs b.natAbs ≤ b.natAbs := Nat.gcd_le_right _ (by omega)
  have h2 : b.natAbs < 2 ^ (b.natAbs.log2 + 1) := Nat.lt_log2_self
  have h3 : (Nat.gcd t.natAbs b.natAbs).log2 < b.natAbs.log2 + 1 := PySem.Flt.log2_lt_of (by omega) (Nat.lt_of_le_of_lt h1 h2)
  omega

/-! ### whole, low, part -/
def sp_whole : Sp := fun vs H Q _ => ∃ n : Int, vs = [.int n] ∧ Q (.bl true) H
theorem ok__law_whole (T : Env K mg) : FnOk P w K mg base CX0 1 T.a__law_whole T.fd__law_whole ["_law_found"] sp_whole := by
  refine T.F__law_whole.ok sc__law_whole (fun vs H Q E h => ?_) (fun cdv A outer s H vs Q E hr h => ?_)
  · obtain ⟨n, rfl, _⟩ := h
    rfl
  · obtain ⟨n, rfl, q⟩ := h
    refine ⟨_, (pss_one (ps_ret (pe_and (pe_callB call_isi (by rfl) T.m_isinstance (by decide +kernel) (pa_cons (pv 0) (pa_cons (pe_bltn (v := .ty "int") (u := .type "int") (by rfl) T.m_int (by decide +kernel) rfl) pa_nil))) (pe_one (pe_not (pe_callB call_isi (by rfl) T.m_isinstance (by decide +kernel) (pa_cons (pv 0) (pa_cons (pe_bltn (v := .ty "bool") (u := .type "bool") (by rfl) T.m_bool (by decide +kernel) rfl) pa_nil)))))))), ?_⟩
    refine ⟨_, rfl, _, _, _, _, _, rfl, .ty _, .base (.int _), kit_ty (by decide +kernel), true, rfl, iteT ?_⟩
    exact ⟨_, rfl, _, _, _, _, _, rfl, .ty _, .base (.int _), kit_ty (by decide +kernel), false, rfl, q⟩
def sp_low : Sp := fun vs H Q _ => ∃ t b : Int, vs = [.int t, .int b] ∧ b ≠ 0 ∧ b.natAbs.log2 < 9000 ∧
  ∀ p, H p = none → Q (.ref p) (upd H p (.tup [.int (lowI t b).1, .int (lowI t b).2]))
theorem gcd_turn {a b : Nat} (h : 0 < b) : Nat.gcd b (a % b) = Nat.gcd a b := by
  rw [Nat.gcd_comm a b, Nat.gcd_rec b a, Nat.gcd_comm]
theorem ok__law_low (T : Env K mg) : FnOk P w K mg base CX0 1 T.a__law_low T.fd__law_low ["_law_top", "_law_bottom"] sp_low := by
  refine T.F__law_low.ok sc__law_low (fun vs H Q E h => ?_) (fun cdv A outer s H vs Q E hr h => ?_)
  · obtain ⟨t, b, rfl, _⟩ := h
    rfl
  · obtain ⟨t, b, rfl, hb, hlog, q⟩ := h
    refine ⟨_, (pss_cons (ps_set (i := 2) sc__law_low.nd rfl (.inl rfl) (pe_callB call_abs (by rfl) T.m_abs (by decide +kernel) (pa_cons (pv 0) pa_nil)))
 (pss_cons (ps_set (i := 3) sc__law_low.nd rfl (.inl rfl) (pe_callB call_abs (by rfl) T.m_abs (by decide +kernel) (pa_cons (pv 1) pa_nil)))
 (pss_cons (ps_while PassesOwn.never (pt_cmpR op_gt (pv 3) pe_int (nomark _))
 (pss_one (ps_par (i := 2) (j := 3) (by rfl) sc__law_low.nd rfl rfl (by decide) rfl rfl (pa_cons (pv 3) (pa_cons (pe_op op_mod (pv 2) (pv 3)) pa_nil)) (by rfl))))
 (C8.pss_cut (ps_if (pt_cmpR op_lt (pv 1) pe_int (nomark _))
 (pss_cons (ps_set (i := 0) sc__law_low.nd rfl (.inl rfl) (pe_un un_neg (pv 0)))
 (pss_one (ps_set (i := 1) sc__law_low.nd rfl (.inl rfl) (pe_un un_neg (pv 1)))))
 pss_nil)
 (pss_one (ps_ret (pe_tup (pa_cons (pe_op op_fdivX (pv 0) (pv 2)) (pa_cons (pe_op op_fdivX (pv 1) (pv 2)) pa_nil))))))))), ?_⟩
    refine ⟨_, rfl, _, rfl, _, rfl, _, rfl, ?_⟩
    have ab : ∀ z : Int, (if z < 0 then -z else z) = (z.natAbs : Int) := fun z => by split <;> omega
    rw [ab, ab]
    refine while_by (fun σ H' => H = H' ∧ ∃ x y : Nat, σ = [some (.int t), some (.int b), some (.int (x : Int)), some (.int (y : Int))] ∧ Nat.gcd x y = Nat.gcd t.natAbs b.natAbs)
      (fun σ _ => match σ with | [_, _, _, some (.int y)] => y.toNat | _ => 0) ⟨rfl, _, _, rfl, rfl⟩ ?_ ?_
    · rintro _ _ ⟨rfl, x, y, rfl, hg⟩
      refine ⟨_, rfl, _, _, rfl, rfl, _, rfl, ite2 (fun hd => ?_) (fun hd => ?_)⟩
      · have hy : 0 < y := by have := of_decide_eq_true hd; omega
        refine ⟨_, rfl, _, rfl, _, rfl, _, _, rfl, rfl, by omega, _, _, rfl, ⟨rfl, y, x % y, ?_, ?_⟩, ?_⟩
        · rw [Int.natCast_emod]; rfl
        · rw [gcd_turn hy]; exact hg
        · show ((x : Int) % (y : Int)).toNat < ((y : Int)).toNat
          have : x % y < y := Nat.mod_lt _ hy
          rw [← Int.natCast_emod]
          omega
      · have hy : y = 0 := by have h1 : ¬ ((0 : Int) < (y : Int)) := nd hd; omega
        subst hy
        rw [Nat.gcd_zero_right] at hg
        have hgp : 0 < Nat.gcd t.natAbs b.natAbs := Nat.gcd_pos_of_pos_right _ (by omega)
        have hgl := gcd_log (t := t) hb hlog
        rw [hg]
        generalize hG : Nat.gcd t.natAbs b.natAbs = g at *
        refine ⟨fun σ' H2 => H = H2 ∧ ∃ y0 : Option V, ((b < 0 ∧ σ' = [some (.int (-t)), some (.int (-b)), some (.int (g : Int)), y0]) ∨ (¬ b < 0 ∧ σ' = [some (.int t), some (.int b), some (.int (g : Int)), y0])), ?_, ?_⟩
        · refine ⟨_, rfl, _, _, rfl, rfl, _, rfl, ite2 (fun hd => ?_) (fun hd => ?_)⟩
          · exact ⟨_, rfl, _, rfl, _, rfl, _, rfl, rfl, _, .inl ⟨of_decide_eq_true hd, rfl⟩⟩
          · exact ⟨rfl, _, .inr ⟨nd hd, rfl⟩⟩
        · rintro σ' H2 ⟨rfl, y0, ⟨hn, rfl⟩ | ⟨hn, rfl⟩⟩
          · refine ⟨_, rfl, _, rfl, _, _, rfl, rfl, ⟨by omega, hgl⟩, _, rfl, _, rfl, _, _, rfl, rfl, ⟨by omega, hgl⟩, (by show 2 ≤ sizeLine; decide), fun p hp => ?_⟩
            have := q p hp
            unfold lowI at this
            rw [if_pos hn, hG] at this
            show Q (.ref p) (upd H p (.tup [.int ((-t).fdiv (g : Int)), .int ((-b).fdiv (g : Int))]))
            rw [fdiv_lowP (by omega), fdiv_lowP (by omega)]
            exact this
          · refine ⟨_, rfl, _, rfl, _, _, rfl, rfl, ⟨by omega, hgl⟩, _, rfl, _, rfl, _, _, rfl, rfl, ⟨by omega, hgl⟩, (by show 2 ≤ sizeLine; decide), fun p hp => ?_⟩
            have := q p hp
            unfold lowI at this
            rw [if_neg hn, hG] at this
            show Q (.ref p) (upd H p (.tup [.int (t.fdiv (g : Int)), .int (b.fdiv (g : Int))]))
            rw [fdiv_lowP (by omega), fdiv_lowP (by omega)]
            exact this
    · rintro σ H' Q1 Q2 hQ ⟨v, e, i, j, e1, e2, k, e3, q1⟩
      exact ⟨v, e, i, j, e1, e2, k, e3, hQ _ _ q1⟩
/-- what is told of a pair of ints: whether it is a fraction in lowest terms -/
def sp_part (K : PySem.W.Frag) : Sp := fun vs H Q _ => ∃ (p : Addr) (x y : Int), vs = [.ref p] ∧ H p = some (.tup [.int x, .int y]) ∧ Low x y ∧ y.natAbs.log2 < 9000 ∧ ∀ H', Same H H' → Q (.bl true) H'
theorem ok__law_part (T : Env K mg) : FnOk P w K mg base CX0 2 T.a__law_part T.fd__law_part ["_law_found"] (sp_part K) := by
  refine T.F__law_part.ok sc__law_part (fun vs H Q E h => ?_) (fun cdv A outer s H vs Q E hr h => ?_)
  · obtain ⟨p, x, y, rfl, _⟩ := h
    rfl
  · obtain ⟨p, x, y, rfl, hp, hL, hlog, q⟩ := h
    refine ⟨_, (pss_cons (ps_if (PW.pt (pw_or (pt_not (pt_val (pe_callB call_isi (by rfl) T.m_isinstance (by decide +kernel) (pa_cons (pv 0) (pa_cons (pe_bltn (v := .ty "tuple") (u := .type "tuple") (by rfl) T.m_tuple (by decide +kernel) rfl) pa_nil))))) (pw_or1 (pt_cmpR op_ne (pe_callB call_len_seq (by rfl) T.m_len (by decide +kernel) (pa_cons (pv 0) pa_nil)) pe_int (nomark _)))))
 (pss_one (ps_ret pe_bl))
 pss_nil)
 (pss_cons (ps_if (PW.pt (pw_or (pt_not (pt_val (pe_call (ok__law_whole T) (hr.mono (by decide)) (by rfl) T.g__law_whole T.F__law_whole.kp T.b__law_whole .nil pass0 (pa_cons (pe_ix ix_tup (pv 0) pe_int (fun _ _ => rfl)) pa_nil)))) (pw_or (pt_not (pt_val (pe_call (ok__law_whole T) (hr.mono (by decide)) (by rfl) T.g__law_whole T.F__law_whole.kp T.b__law_whole .nil pass0 (pa_cons (pe_ix ix_tup (pv 0) pe_int (fun _ _ => rfl)) pa_nil)))) (pw_or1 (pt_cmpR op_le (pe_ix ix_tup (pv 0) pe_int (fun _ _ => rfl)) pe_int (nomark _))))))
 (pss_one (ps_ret pe_bl))
 pss_nil)
 (pss_one (ps_ret (pe_cmpR (op_eqD hr.units) (pe_call (ok__law_low T) (hr.mono (by decide)) (by rfl) T.g__law_low T.F__law_low.kp T.b__law_low .nil pass0 (pa_cons (pe_ix ix_tup (pv 0) pe_int (fun _ _ => rfl)) (pa_cons (pe_ix ix_tup (pv 0) pe_int (fun _ _ => rfl)) pa_nil))) (pv 0) (nomark _)))))), ?_⟩
    have hS : SqT K H p [.int x, .int y] := .inl (.inl hp)
    have hpos := hL.pos
    refine ⟨_, rfl, _, _, _, _, _, rfl, .ty _, .base (.tup hp), kit_ty (by decide +kernel), true, rfl, ?_⟩
    show if false = true then _ else _
    rw [if_neg Bool.false_ne_true]
    refine ⟨_, rfl, _, _, rfl, .inr hS, rfl, _, rfl, ?_⟩
    refine iteNS rfl ?_
    refine ⟨_, rfl, _, _, _, _, rfl, rfl, hS, atI_nat (j := 0) rfl, _, rfl, true, rfl, iteF ?_⟩
    refine ⟨_, rfl, _, _, _, _, rfl, rfl, hS, atI_nat (j := 1) rfl, _, rfl, true, rfl, iteF ?_⟩
    refine ⟨_, rfl, _, _, _, _, rfl, rfl, hS, atI_nat (j := 1) rfl, _, _, rfl, rfl, _, rfl, ?_⟩
    rw [decide_eq_false (show ¬ y ≤ 0 by omega)]
    refine iteF ?_
    refine ⟨_, rfl, _, _, _, _, rfl, rfl, hS, atI_nat (j := 0) rfl, _, rfl, _, _, _, _, rfl, rfl, hS, atI_nat (j := 1) rfl, x, y, rfl, by omega, hlog, fun r hr' => ?_⟩
    rw [lowI_self hL]
    have hd : ∀ z H2, H2 z = some (.tup [.int x, .int y]) → Dp K H2 (.ref z) (.tuple [.int x, .int y]) := fun z H2 e => .tup (.inl (.inl e)) (.cons (.int x) (.cons (.int y) .nil))
    have hpr : p ≠ r := ne_of_none hp hr'
    refine ⟨_, rfl, _, _, hd r _ upd_same, hd p _ (by rw [upd_ne hpr]; exact hp), rfl, rfl, ?_⟩
    rw [SeqAt.eqv_refl _ (by rfl)]
    exact q _ (same_new hr')

/-! ### posts parted into plots: the mathematics -/
inductive Tr where
  | lf : Tr
  | nd (m : Int) (l r : Tr) : Tr
def TOk (S : Int → Prop) : Int → Int → Tr → Prop
  | lo, hi, .lf => lo < hi ∧ ∀ z, S z → ¬ (lo < z ∧ z < hi)
  | lo, hi, .nd m l r => S m ∧ TOk S lo m l ∧ TOk S m hi r
def tie : Int → Int → Tr → Int → Int → Prop
  | lo, hi, .lf, a, b => a = lo ∧ b = hi
  | lo, hi, .nd m l r, a, b => (a = lo ∧ b = hi) ∨ tie lo m l a b ∨ tie m hi r a b
def graft (v : Int) : Int → Int → Tr → Tr
  | lo, hi, .lf => if lo < v ∧ v < hi then .nd v .lf .lf else .lf
  | lo, hi, .nd m l r => .nd m (graft v lo m l) (graft v m hi r)
theorem TOk.lt {S : Int → Prop} : ∀ {T : Tr} {lo hi : Int}, TOk S lo hi T → lo < hi
  | .lf, _, _, h => h.1
  | .nd m l r, _, _, ⟨_, h1, h2⟩ => Int.lt_trans h1.lt h2.lt
theorem tie_root : ∀ {T : Tr} {lo hi : Int}, tie lo hi T lo hi
  | .lf, _, _ => ⟨rfl, rfl⟩
  | .nd _ _ _, _, _ => .inl ⟨rfl, rfl⟩
theorem tie_in {S : Int → Prop} : ∀ {T : Tr} {lo hi a b : Int}, TOk S lo hi T → tie lo hi T a b → lo ≤ a ∧ a < b ∧ b ≤ hi
  | .lf, lo, hi, a, b, h, ⟨e1, e2⟩ => by subst e1; subst e2; exact ⟨Int.le_refl _, h.1, Int.le_refl _⟩
  | .nd m l r, lo, hi, a, b, ⟨_, h1, h2⟩, t => by
    have q1 := h1.lt
    have q2 := h2.lt
    rcases t with ⟨e1, e2⟩ | t | t
    · subst e1; subst e2; exact ⟨Int.le_refl _, Int.lt_trans q1 q2, Int.le_refl _⟩
    · have := tie_in h1 t; omega
    · have := tie_in h2 t; omega
theorem tie_S {S : Int → Prop} : ∀ {T : Tr} {lo hi a b : Int}, TOk S lo hi T → S lo → S hi → tie lo hi T a b → S a ∧ S b
  | .lf, lo, hi, a, b, h, s1, s2, ⟨e1, e2⟩ => by subst e1; subst e2; exact ⟨s1, s2⟩
  | .nd m l r, lo, hi, a, b, ⟨sm, h1, h2⟩, s1, s2, t => by
    rcases t with ⟨e1, e2⟩ | t | t
    · subst e1; subst e2; exact ⟨s1, s2⟩
    · exact tie_S h1 s1 sm t
    · exact tie_S h2 sm s2 t
theorem tie_adj {S : Int → Prop} : ∀ {T : Tr} {lo hi a b : Int}, TOk S lo hi T → S lo → S hi → S a → S b → a < b → (∀ z, S z → ¬ (a < z ∧ z < b)) → lo ≤ a → b ≤ hi → tie lo hi T a b
  | .lf, lo, hi, a, b, h, s1, s2, sa, sb, hab, hz, h1, h2 => by
    have := h.2 a sa
    have := h.2 b sb
    exact ⟨by omega, by omega⟩
  | .nd m l r, lo, hi, a, b, ⟨sm, h1, h2⟩, s1, s2, sa, sb, hab, hz, g1, g2 => by
    have := hz m sm
    by_cases hm : b ≤ m
    · exact .inr (.inl (tie_adj h1 s1 sm sa sb hab hz g1 hm))
    · exact .inr (.inr (tie_adj h2 sm s2 sa sb hab hz (by omega) g2))
theorem nocross {S : Int → Prop} : ∀ {T : Tr} {lo hi a b c d : Int}, TOk S lo hi T → tie lo hi T a b → tie lo hi T c d → a < c → c < b → b < d → False
  | .lf, lo, hi, a, b, c, d, h, ⟨e1, e2⟩, ⟨e3, e4⟩, h1, h2, h3 => by omega
  | .nd m l r, lo, hi, a, b, c, d, ⟨sm, k1, k2⟩, t, u, h1, h2, h3 => by
    have q1 := k1.lt
    have q2 := k2.lt
    rcases t with ⟨e1, e2⟩ | t | t <;> rcases u with ⟨e3, e4⟩ | u | u
    · omega
    · have := tie_in k1 u; omega
    · have := tie_in k2 u; omega
    · have := tie_in k1 t; omega
    · exact nocross k1 t u h1 h2 h3
    · have := tie_in k1 t; have := tie_in k2 u; omega
    · have := tie_in k2 t; omega
    · have := tie_in k2 t; have := tie_in k1 u; omega
    · exact nocross k2 t u h1 h2 h3
theorem inner {S : Int → Prop} : ∀ {T : Tr} {lo hi a b : Int}, TOk S lo hi T → tie lo hi T a b → (∀ z, S z → ¬ (a < z ∧ z < b)) ∨ ∃ m, a < m ∧ m < b ∧ tie lo hi T a m ∧ tie lo hi T m b
  | .lf, lo, hi, a, b, h, ⟨e1, e2⟩ => by subst e1; subst e2; exact .inl h.2
  | .nd m l r, lo, hi, a, b, ⟨sm, k1, k2⟩, t => by
    rcases t with ⟨e1, e2⟩ | t | t
    · subst e1; subst e2; exact .inr ⟨m, k1.lt, k2.lt, .inr (.inl tie_root), .inr (.inr tie_root)⟩
    · rcases inner k1 t with q | ⟨x, q1, q2, q3, q4⟩
      · exact .inl q
      · exact .inr ⟨x, q1, q2, .inr (.inl q3), .inr (.inl q4)⟩
    · rcases inner k2 t with q | ⟨x, q1, q2, q3, q4⟩
      · exact .inl q
      · exact .inr ⟨x, q1, q2, .inr (.inr q3), .inr (.inr q4)⟩
theorem outer {S : Int → Prop} : ∀ {T : Tr} {lo hi a b : Int}, TOk S lo hi T → tie lo hi T a b → ¬ (a = lo ∧ b = hi) → ∃ p, (p < a ∧ tie lo hi T p a ∧ tie lo hi T p b) ∨ (b < p ∧ tie lo hi T a p ∧ tie lo hi T b p)
  | .lf, lo, hi, a, b, h, t, n => absurd t n
  | .nd m l r, lo, hi, a, b, ⟨sm, k1, k2⟩, t, n => by
    rcases t with t | t | t
    · exact absurd t n
    · by_cases e : a = lo ∧ b = m
      · obtain ⟨e1, e2⟩ := e; subst e1; subst e2
        exact ⟨hi, .inr ⟨k2.lt, .inl ⟨rfl, rfl⟩, .inr (.inr tie_root)⟩⟩
      · obtain ⟨p, q | q⟩ := outer k1 t e
        · exact ⟨p, .inl ⟨q.1, .inr (.inl q.2.1), .inr (.inl q.2.2)⟩⟩
        · exact ⟨p, .inr ⟨q.1, .inr (.inl q.2.1), .inr (.inl q.2.2)⟩⟩
    · by_cases e : a = m ∧ b = hi
      · obtain ⟨e1, e2⟩ := e; subst e1; subst e2
        exact ⟨lo, .inl ⟨k1.lt, .inr (.inl tie_root), .inl ⟨rfl, rfl⟩⟩⟩
      · obtain ⟨p, q | q⟩ := outer k2 t e
        · exact ⟨p, .inl ⟨q.1, .inr (.inr q.2.1), .inr (.inr q.2.2)⟩⟩
        · exact ⟨p, .inr ⟨q.1, .inr (.inr q.2.1), .inr (.inr q.2.2)⟩⟩
theorem TOk.more {S S' : Int → Prop} : ∀ {T : Tr} {lo hi : Int}, TOk S lo hi T → (∀ z, S z → S' z) → (∀ z, S' z → lo < z → z < hi → S z) → TOk S' lo hi T
  | .lf, lo, hi, h, s1, s2 => ⟨h.1, fun z hz hh => h.2 z (s2 z hz hh.1 hh.2) hh⟩
  | .nd m l r, lo, hi, ⟨sm, k1, k2⟩, s1, s2 => ⟨s1 m sm, k1.more s1 fun z hz h1 h2 => s2 z hz h1 (Int.lt_trans h2 k2.lt), k2.more s1 fun z hz h1 h2 => s2 z hz (Int.lt_trans k1.lt h1) h2⟩
theorem graft_ok {S S' : Int → Prop} {v : Int} : ∀ {T : Tr} {lo hi : Int}, TOk S lo hi T → (∀ z, S' z ↔ S z ∨ z = v) → TOk S' lo hi (graft v lo hi T)
  | .lf, lo, hi, h, s => by
    unfold graft
    by_cases e : lo < v ∧ v < hi
    · rw [if_pos e]
      refine ⟨(s v).mpr (.inr rfl), ⟨e.1, fun z hz hh => ?_⟩, e.2, fun z hz hh => ?_⟩
      · rcases (s z).mp hz with hz | hz
        · exact h.2 z hz ⟨hh.1, by omega⟩
        · omega
      · rcases (s z).mp hz with hz | hz
        · exact h.2 z hz ⟨by omega, hh.2⟩
        · omega
    · rw [if_neg e]
      refine ⟨h.1, fun z hz hh => ?_⟩
      rcases (s z).mp hz with hz | hz
      · exact h.2 z hz hh
      · exact e (hz ▸ hh)
  | .nd m l r, lo, hi, ⟨sm, k1, k2⟩, s => ⟨(s m).mpr (.inl sm), graft_ok k1 s, graft_ok k2 s⟩
theorem graft_same {S : Int → Prop} {v : Int} : ∀ {T : Tr} {lo hi : Int}, TOk S lo hi T → ¬ (lo < v ∧ v < hi) → graft v lo hi T = T
  | .lf, lo, hi, h, n => by unfold graft; rw [if_neg n]
  | .nd m l r, lo, hi, ⟨sm, k1, k2⟩, n => by
    have q1 := k1.lt
    have q2 := k2.lt
    unfold graft
    rw [graft_same k1 (by omega), graft_same k2 (by omega)]
theorem graft_tie {S : Int → Prop} {v p q : Int} (nv : ¬ S v) (sp : S p) (sq : S q) (hp : p < v) (hq : v < q) (hz : ∀ z, S z → ¬ (p < z ∧ z < q)) :
    ∀ {T : Tr} {lo hi : Int}, TOk S lo hi T → S lo → S hi → lo < v → v < hi → ∀ a b, tie lo hi (graft v lo hi T) a b ↔ tie lo hi T a b ∨ (a = p ∧ b = v) ∨ (a = v ∧ b = q)
  | .lf, lo, hi, h, s1, s2, g1, g2, a, b => by
    unfold graft
    rw [if_pos ⟨g1, g2⟩]
    have := h.2 p sp
    have := h.2 q sq
    have := hz lo s1
    have := hz hi s2
    have e1 : p = lo := by omega
    have e2 : q = hi := by omega
    subst e1; subst e2
    exact Iff.rfl
  | .nd m l r, lo, hi, ⟨sm, k1, k2⟩, s1, s2, g1, g2, a, b => by
    have hm : m ≠ v := fun e => nv (e ▸ sm)
    unfold graft
    show (_ ∨ tie lo m (graft v lo m l) a b ∨ tie m hi (graft v m hi r) a b) ↔ (_ ∨ _ ∨ _) ∨ _
    by_cases h : v < m
    · rw [graft_same k2 (by omega), graft_tie nv sp sq hp hq hz k1 s1 sm g1 h a b]
      constructor
      · rintro (h | (h | h) | h)
        · exact .inl (.inl h)
        · exact .inl (.inr (.inl h))
        · exact .inr h
        · exact .inl (.inr (.inr h))
      · rintro ((h | h | h) | h)
        · exact .inl h
        · exact .inr (.inl (.inl h))
        · exact .inr (.inr h)
        · exact .inr (.inl (.inr h))
    · rw [graft_same k1 (by omega), graft_tie nv sp sq hp hq hz k2 sm s2 (by omega) g2 a b]
      constructor
      · rintro (h | h | h | h)
        · exact .inl (.inl h)
        · exact .inl (.inr (.inl h))
        · exact .inl (.inr (.inr h))
        · exact .inr h
      · rintro ((h | h | h) | h)
        · exact .inl h
        · exact .inr (.inl h)
        · exact .inr (.inr (.inl h))
        · exact .inr (.inr (.inr h))
/-- neighbours among S, or the first and the last -/
def side (S : Int → Prop) (lo hi a b : Int) : Prop := (∀ z, S z → ¬ (a < z ∧ z < b)) ∨ (a = lo ∧ b = hi)
structure Cut (S : Int → Prop) (lo hi : Int) (R : List (Int × Int)) : Prop where
  slo : S lo
  shi : S hi
  bd : ∀ z, S z → lo ≤ z ∧ z ≤ hi
  nd : R.Nodup
  ex : ∃ T, TOk S lo hi T ∧ ∀ a b, (a, b) ∈ R ↔ tie lo hi T a b ∧ ¬ side S lo hi a b
theorem ear_mid {S S' : Int → Prop} {lo hi v p q : Int} {R : List (Int × Int)} (h : Cut S lo hi R) (s : ∀ z, S' z ↔ S z ∨ z = v) (nv : ¬ S v) (sp : S p) (sq : S q) (hp : p < v) (hq : v < q) (hz : ∀ z, S z → ¬ (p < z ∧ z < q)) (hr : ¬ (p = lo ∧ q = hi)) :
    Cut S' lo hi ((p, q) :: R) := by
  obtain ⟨T, hT, hR⟩ := h.ex
  have b1 := h.bd p sp
  have b2 := h.bd q sq
  have hpq := tie_adj hT h.slo h.shi sp sq (Int.lt_trans hp hq) hz b1.1 b2.2
  refine ⟨(s lo).mpr (.inl h.slo), (s hi).mpr (.inl h.shi), fun z hz => ?_, List.nodup_cons.mpr ⟨fun hm => ?_, h.nd⟩, graft v lo hi T, graft_ok hT s, fun a b => ?_⟩
  · rcases (s z).mp hz with hz | hz
    · exact h.bd z hz
    · omega
  · exact ((hR p q).mp hm).2 (.inl hz)
  · rw [graft_tie nv sp sq hp hq hz hT h.slo h.shi (by omega) (by omega) a b, List.mem_cons, hR a b]
    constructor
    · rintro (e | ⟨t, n⟩)
      · obtain ⟨rfl, rfl⟩ := Prod.mk.inj e
        refine ⟨.inl hpq, ?_⟩
        rintro (w | w)
        · exact w v ((s v).mpr (.inr rfl)) ⟨hp, hq⟩
        · exact hr w
      · refine ⟨.inl t, ?_⟩
        rintro (w | w)
        · exact n (.inl fun z hz => w z ((s z).mpr (.inl hz)))
        · exact n (.inr w)
    · rintro ⟨t | ⟨e1, e2⟩ | ⟨e1, e2⟩, n⟩
      · by_cases e : (a, b) = (p, q)
        · exact .inl e
        · refine .inr ⟨t, ?_⟩
          rintro (w | w)
          · apply n
            left
            intro z hz' hh
            rcases (s z).mp hz' with hz' | hz'
            · exact w z hz' hh
            · subst hz'
              have u := tie_S hT h.slo h.shi t
              have w1 := w p sp
              have w2 := w q sq
              have w3 := hz a u.1
              have w4 := hz b u.2
              have e1 : a = p := by omega
              have e2 : b = q := by omega
              exact e (by rw [e1, e2])
          · exact n (.inr w)
      · subst e1; subst e2
        exact absurd (.inl fun z hz' hh => by
          rcases (s z).mp hz' with hz' | hz'
          · exact hz z hz' ⟨hh.1, by omega⟩
          · omega) n
      · subst e1; subst e2
        exact absurd (.inl fun z hz' hh => by
          rcases (s z).mp hz' with hz' | hz'
          · exact hz z hz' ⟨by omega, hh.2⟩
          · omega) n
theorem ear_first {S S' : Int → Prop} {lo hi v x : Int} {R : List (Int × Int)} (h : Cut S lo hi R) (s : ∀ z, S' z ↔ S z ∨ z = v) (hv : v < lo) (sx : S x) (hx : lo < x ∧ x < hi) : Cut S' v hi ((lo, hi) :: R) := by
  obtain ⟨T, hT, hR⟩ := h.ex
  have hlt := hT.lt
  refine ⟨(s v).mpr (.inr rfl), (s hi).mpr (.inl h.shi), fun z hz => ?_, List.nodup_cons.mpr ⟨fun hm => ?_, h.nd⟩, .nd lo .lf T, ⟨(s lo).mpr (.inl h.slo), ⟨hv, fun z hz hh => ?_⟩, ?_⟩, fun a b => ?_⟩
  · rcases (s z).mp hz with hz | hz
    · have := h.bd z hz; omega
    · omega
  · exact ((hR lo hi).mp hm).2 (.inr ⟨rfl, rfl⟩)
  · rcases (s z).mp hz with hz | hz
    · have := h.bd z hz; omega
    · omega
  · exact hT.more (fun z hz => (s z).mpr (.inl hz)) fun z hz h1 h2 => ((s z).mp hz).resolve_right (by omega)
  · rw [List.mem_cons, hR a b]
    constructor
    · rintro (e | ⟨t, n⟩)
      · obtain ⟨rfl, rfl⟩ := Prod.mk.inj e
        refine ⟨.inr (.inr tie_root), ?_⟩
        rintro (w | w)
        · exact w x ((s x).mpr (.inl sx)) hx
        · omega
      · refine ⟨.inr (.inr t), ?_⟩
        have ti := tie_in hT t
        rintro (w | w)
        · exact n (.inl fun z hz => w z ((s z).mpr (.inl hz)))
        · omega
    · rintro ⟨⟨e1, e2⟩ | ⟨e1, e2⟩ | t, n⟩
      · exact absurd (.inr ⟨e1, e2⟩) n
      · refine absurd (.inl fun z hz hh => ?_) n
        rcases (s z).mp hz with hz | hz
        · have := h.bd z hz; omega
        · omega
      · have ti := tie_in hT t
        by_cases e : (a, b) = (lo, hi)
        · exact .inl e
        · refine .inr ⟨t, ?_⟩
          rintro (w | w)
          · refine n (.inl fun z hz hh => ?_)
            rcases (s z).mp hz with hz | hz
            · exact w z hz hh
            · omega
          · exact e (by rw [w.1, w.2])
theorem ear_last {S S' : Int → Prop} {lo hi v x : Int} {R : List (Int × Int)} (h : Cut S lo hi R) (s : ∀ z, S' z ↔ S z ∨ z = v) (hv : hi < v) (sx : S x) (hx : lo < x ∧ x < hi) : Cut S' lo v ((lo, hi) :: R) := by
  obtain ⟨T, hT, hR⟩ := h.ex
  have hlt := hT.lt
  refine ⟨(s lo).mpr (.inl h.slo), (s v).mpr (.inr rfl), fun z hz => ?_, List.nodup_cons.mpr ⟨fun hm => ?_, h.nd⟩, .nd hi T .lf, ⟨(s hi).mpr (.inl h.shi), ?_, ⟨hv, fun z hz hh => ?_⟩⟩, fun a b => ?_⟩
  · rcases (s z).mp hz with hz | hz
    · have := h.bd z hz; omega
    · omega
  · exact ((hR lo hi).mp hm).2 (.inr ⟨rfl, rfl⟩)
  · exact hT.more (fun z hz => (s z).mpr (.inl hz)) fun z hz h1 h2 => ((s z).mp hz).resolve_right (by omega)
  · rcases (s z).mp hz with hz | hz
    · have := h.bd z hz; omega
    · omega
  · rw [List.mem_cons, hR a b]
    constructor
    · rintro (e | ⟨t, n⟩)
      · obtain ⟨rfl, rfl⟩ := Prod.mk.inj e
        refine ⟨.inr (.inl tie_root), ?_⟩
        rintro (w | w)
        · exact w x ((s x).mpr (.inl sx)) hx
        · omega
      · refine ⟨.inr (.inl t), ?_⟩
        have ti := tie_in hT t
        rintro (w | w)
        · exact n (.inl fun z hz => w z ((s z).mpr (.inl hz)))
        · omega
    · rintro ⟨⟨e1, e2⟩ | t | ⟨e1, e2⟩, n⟩
      · exact absurd (.inr ⟨e1, e2⟩) n
      · have ti := tie_in hT t
        by_cases e : (a, b) = (lo, hi)
        · exact .inl e
        · refine .inr ⟨t, ?_⟩
          rintro (w | w)
          · refine n (.inl fun z hz hh => ?_)
            rcases (s z).mp hz with hz | hz
            · exact w z hz hh
            · omega
          · exact e (by rw [w.1, w.2])
      · refine absurd (.inl fun z hz hh => ?_) n
        rcases (s z).mp hz with hz | hz
        · have := h.bd z hz; omega
        · omega
theorem flip {S : Int → Prop} : ∀ {T : Tr} {lo hi a b : Int}, TOk S lo hi T → tie lo hi T a b → ¬ (a = lo ∧ b = hi) → ¬ (∀ z, S z → ¬ (a < z ∧ z < b)) →
    ∃ T' m p, TOk S lo hi T' ∧ a < m ∧ m < b ∧ tie lo hi T a m ∧ tie lo hi T m b ∧
      ((p < a ∧ tie lo hi T p a ∧ tie lo hi T p b ∧ ∀ x y, tie lo hi T' x y ↔ (tie lo hi T x y ∧ ¬ (x = a ∧ y = b)) ∨ (x = p ∧ y = m)) ∨
       (b < p ∧ tie lo hi T a p ∧ tie lo hi T b p ∧ ∀ x y, tie lo hi T' x y ↔ (tie lo hi T x y ∧ ¬ (x = a ∧ y = b)) ∨ (x = m ∧ y = p)))
  | .lf, lo, hi, a, b, h, t, n, _ => absurd t n
  | .nd m0 l r, lo, hi, a, b, ⟨sm, k1, k2⟩, t, n, na => by
    have q1 := k1.lt
    have q2 := k2.lt
    rcases t with t | t | t
    · exact absurd t n
    · have ti := tie_in k1 t
      by_cases e : a = lo ∧ b = m0
      · obtain ⟨e1, e2⟩ := e
        subst e1; subst e2
        match l, k1 with
        | .lf, k1 => exact absurd k1.2 na
        | .nd m1 l1 l2, ⟨sm1, j1, j2⟩ =>
          have r1 := j1.lt
          have r2 := j2.lt
          refine ⟨.nd m1 l1 (.nd b l2 r), m1, hi, ⟨sm1, j1, sm, j2, k2⟩, r1, r2, .inr (.inl (.inr (.inl tie_root))), .inr (.inl (.inr (.inr tie_root))), .inr ⟨q2, .inl ⟨rfl, rfl⟩, .inr (.inr tie_root), fun x y => ?_⟩⟩
          constructor
          · rintro (w | w | w | w | w)
            · exact .inl ⟨.inl w, by omega⟩
            · have := tie_in j1 w; exact .inl ⟨.inr (.inl (.inr (.inl w))), by omega⟩
            · exact .inr w
            · have := tie_in j2 w; exact .inl ⟨.inr (.inl (.inr (.inr w))), by omega⟩
            · have := tie_in k2 w; exact .inl ⟨.inr (.inr w), by omega⟩
          · rintro (⟨w | (w | w | w) | w, g⟩ | w)
            · exact .inl w
            · exact absurd w g
            · exact .inr (.inl w)
            · exact .inr (.inr (.inr (.inl w)))
            · exact .inr (.inr (.inr (.inr w)))
            · exact .inr (.inr (.inl w))
      · obtain ⟨T', m, p, hT', g1, g2, g3, g4, g5⟩ := flip k1 t e na
        refine ⟨.nd m0 T' r, m, p, ⟨sm, hT', k2⟩, g1, g2, .inr (.inl g3), .inr (.inl g4), ?_⟩
        rcases g5 with ⟨g5, g6, g7, g8⟩ | ⟨g5, g6, g7, g8⟩
        · refine .inl ⟨g5, .inr (.inl g6), .inr (.inl g7), fun x y => ?_⟩
          show (_ ∨ tie lo m0 T' x y ∨ _) ↔ _
          rw [g8 x y]
          constructor
          · rintro (w | (w | w) | w)
            · exact .inl ⟨.inl w, by omega⟩
            · exact .inl ⟨.inr (.inl w.1), w.2⟩
            · exact .inr w
            · have := tie_in k2 w; exact .inl ⟨.inr (.inr w), by omega⟩
          · rintro (⟨w | w | w, g⟩ | w)
            · exact .inl w
            · exact .inr (.inl (.inl ⟨w, g⟩))
            · exact .inr (.inr w)
            · exact .inr (.inl (.inr w))
        · refine .inr ⟨g5, .inr (.inl g6), .inr (.inl g7), fun x y => ?_⟩
          show (_ ∨ tie lo m0 T' x y ∨ _) ↔ _
          rw [g8 x y]
          constructor
          · rintro (w | (w | w) | w)
            · exact .inl ⟨.inl w, by omega⟩
            · exact .inl ⟨.inr (.inl w.1), w.2⟩
            · exact .inr w
            · have := tie_in k2 w; exact .inl ⟨.inr (.inr w), by omega⟩
          · rintro (⟨w | w | w, g⟩ | w)
            · exact .inl w
            · exact .inr (.inl (.inl ⟨w, g⟩))
            · exact .inr (.inr w)
            · exact .inr (.inl (.inr w))
    · have ti := tie_in k2 t
      by_cases e : a = m0 ∧ b = hi
      · obtain ⟨e1, e2⟩ := e
        subst e1; subst e2
        match r, k2 with
        | .lf, k2 => exact absurd k2.2 na
        | .nd m1 r1 r2, ⟨sm1, j1, j2⟩ =>
          have h1 := j1.lt
          have h2 := j2.lt
          refine ⟨.nd m1 (.nd a l r1) r2, m1, lo, ⟨sm1, ⟨sm, k1, j1⟩, j2⟩, h1, h2, .inr (.inr (.inr (.inl tie_root))), .inr (.inr (.inr (.inr tie_root))), .inl ⟨q1, .inr (.inl tie_root), .inl ⟨rfl, rfl⟩, fun x y => ?_⟩⟩
          constructor
          · rintro (w | (w | w | w) | w)
            · exact .inl ⟨.inl w, by omega⟩
            · exact .inr w
            · have := tie_in k1 w; exact .inl ⟨.inr (.inl w), by omega⟩
            · have := tie_in j1 w; exact .inl ⟨.inr (.inr (.inr (.inl w))), by omega⟩
            · have := tie_in j2 w; exact .inl ⟨.inr (.inr (.inr (.inr w))), by omega⟩
          · rintro (⟨w | w | (w | w | w), g⟩ | w)
            · exact .inl w
            · exact .inr (.inl (.inr (.inl w)))
            · exact absurd w g
            · exact .inr (.inl (.inr (.inr w)))
            · exact .inr (.inr w)
            · exact .inr (.inl (.inl w))
      · obtain ⟨T', m, p, hT', g1, g2, g3, g4, g5⟩ := flip k2 t e na
        refine ⟨.nd m0 l T', m, p, ⟨sm, k1, hT'⟩, g1, g2, .inr (.inr g3), .inr (.inr g4), ?_⟩
        rcases g5 with ⟨g5, g6, g7, g8⟩ | ⟨g5, g6, g7, g8⟩
        · refine .inl ⟨g5, .inr (.inr g6), .inr (.inr g7), fun x y => ?_⟩
          show (_ ∨ _ ∨ tie m0 hi T' x y) ↔ _
          rw [g8 x y]
          constructor
          · rintro (w | w | (w | w))
            · exact .inl ⟨.inl w, by omega⟩
            · have := tie_in k1 w; exact .inl ⟨.inr (.inl w), by omega⟩
            · exact .inl ⟨.inr (.inr w.1), w.2⟩
            · exact .inr w
          · rintro (⟨w | w | w, g⟩ | w)
            · exact .inl w
            · exact .inr (.inl w)
            · exact .inr (.inr (.inl ⟨w, g⟩))
            · exact .inr (.inr (.inr w))
        · refine .inr ⟨g5, .inr (.inr g6), .inr (.inr g7), fun x y => ?_⟩
          show (_ ∨ _ ∨ tie m0 hi T' x y) ↔ _
          rw [g8 x y]
          constructor
          · rintro (w | w | (w | w))
            · exact .inl ⟨.inl w, by omega⟩
            · have := tie_in k1 w; exact .inl ⟨.inr (.inl w), by omega⟩
            · exact .inl ⟨.inr (.inr w.1), w.2⟩
            · exact .inr w
          · rintro (⟨w | w | w, g⟩ | w)
            · exact .inl w
            · exact .inr (.inl w)
            · exact .inr (.inr (.inl ⟨w, g⟩))
            · exact .inr (.inr (.inr w))

/-! ### ears taken off, row by row -/
abbrev pr (a b : Int) : Int × Int := (min a b, max a b)
theorem sorted_lt {L : List Int} (h : L.Pairwise (· < ·)) {i j : Nat} {x y : Int} (hi : L[i]? = some x) (hj : L[j]? = some y) (hij : i < j) : x < y := by
  obtain ⟨h1, e1⟩ := List.getElem?_eq_some_iff.mp hi
  obtain ⟨h2, e2⟩ := List.getElem?_eq_some_iff.mp hj
  have := List.pairwise_iff_getElem.mp h i j h1 h2 hij
  rw [e1, e2] at this
  exact this
def CutL (L : List Int) (R : List (Int × Int)) : Prop := ∃ lo hi, L.head? = some lo ∧ L.getLast? = some hi ∧ Cut (· ∈ L) lo hi R
theorem sorted_split {A B : List Int} {v : Int} (h : (A ++ v :: B).Pairwise (· < ·)) : (∀ z ∈ A, z < v) ∧ (∀ z ∈ B, v < z) ∧ A.Pairwise (· < ·) ∧ B.Pairwise (· < ·) ∧ (∀ z ∈ A, ∀ y ∈ B, z < y) := by
  rw [List.pairwise_append, List.pairwise_cons] at h
  exact ⟨fun z hz => h.2.2 z hz v (List.mem_cons_self ..), h.2.1.1, h.1, h.2.1.2, fun z hz y hy => h.2.2 z hz y (List.mem_cons_of_mem _ hy)⟩
theorem mem_gap {A B : List Int} {v : Int} : ∀ z, z ∈ A ++ v :: B ↔ z ∈ A ++ B ∨ z = v := by
  intro z
  simp only [List.mem_append, List.mem_cons]
  constructor
  · rintro (h | h | h)
    · exact .inl (.inl h)
    · exact .inr h
    · exact .inl (.inr h)
  · rintro ((h | h) | h)
    · exact .inl h
    · exact .inr (.inr h)
    · exact .inr (.inl h)
theorem last_app {l m : List Int} (h : m ≠ []) : (l ++ m).getLast? = m.getLast? := by
  rw [List.getLast?_append]
  cases e : m.getLast? with
  | none => exact absurd (List.getLast?_eq_none_iff.mp e) h
  | some x => rfl
/-- the post at a place is left out: its neighbours get a rope -/
theorem ear_step {L : List Int} {k : Nat} {v p q : Int} {R : List (Int × Int)} (hL : L.Pairwise (· < ·)) (h4 : 4 ≤ L.length) (hv : L[k]? = some v)
    (hp : (if k = 0 then L.getLast? else L[k - 1]?) = some p) (hq : L[(k + 1) % L.length]? = some q) (h : CutL (L.take k ++ L.drop (k + 1)) R) : CutL L (pr p q :: R) := by
  obtain ⟨lo, hi, hlo, hhi, hc⟩ := h
  obtain ⟨hk, ev⟩ := List.getElem?_eq_some_iff.mp hv
  have eL : L = L.take k ++ v :: L.drop (k + 1) := by
    rw [← ev, ← List.drop_eq_getElem_cons hk, List.take_append_drop]
  have hs := hL
  rw [eL] at hs
  obtain ⟨s1, s2, s3, s4, s5⟩ := sorted_split hs
  have lA : (L.take k).length = k := by rw [List.length_take]; omega
  have lB : (L.drop (k + 1)).length = L.length - (k + 1) := List.length_drop
  have hpq := hp
  generalize eA : L.take k = A at *
  generalize eB : L.drop (k + 1) = B at *
  have sm : ∀ z, z ∈ L ↔ z ∈ A ++ B ∨ z = v := by rw [eL]; exact mem_gap
  have nv : ¬ v ∈ A ++ B := fun hm => by
    rcases List.mem_append.mp hm with hm | hm
    · exact absurd (s1 v hm) (Int.lt_irrefl _)
    · exact absurd (s2 v hm) (Int.lt_irrefl _)
  by_cases k0 : k = 0
  · -- the first
    subst k0
    have A0 : A = [] := List.length_eq_zero_iff.mp lA
    subst A0
    rw [List.nil_append] at *
    rw [Nat.mod_eq_of_lt (by omega)] at hq
    match B, lB with
    | [], lB => rw [List.length_nil] at lB; omega
    | [_], lB => rw [List.length_singleton] at lB; omega
    | [_, _], lB => simp only [List.length_cons, List.length_nil] at lB; omega
    | b0 :: b1 :: b2 :: B', lB =>
      rw [eL] at hq
      obtain rfl : b0 = q := by simpa using hq
      obtain rfl : b0 = lo := by simpa using hlo
      have e1 : L.getLast? = some hi := by
        rw [eL, List.getLast?_cons_cons]
        exact hhi
      rw [if_pos rfl, e1] at hp
      obtain rfl := Option.some.inj hp
      have hlt : b0 < b1 := (List.pairwise_cons.mp s4).1 b1 (by simp)
      have hb1 : b1 < hi := by
        rw [List.getLast?_cons_cons, List.getLast?_cons_cons] at hhi
        have hm : hi ∈ b2 :: B' := List.mem_of_getLast? hhi
        exact (List.pairwise_cons.mp (List.pairwise_cons.mp s4).2).1 hi hm
      have epr : pr hi b0 = (b0, hi) := by
        show (min hi b0, max hi b0) = _
        rw [Int.min_eq_right (by omega), Int.max_eq_left (by omega)]
      rw [epr]
      refine ⟨v, hi, by rw [eL]; rfl, e1, ear_first hc sm (s2 b0 (by simp)) (x := b1) (by simp) ⟨hlt, hb1⟩⟩
  · rw [if_neg k0] at hp
    have hkA : A ≠ [] := fun e => by rw [e] at lA; exact k0 lA.symm
    obtain ⟨A', a, eA'⟩ : ∃ A' a, A = A' ++ [a] := ⟨A.dropLast, A.getLast hkA, (List.dropLast_concat_getLast hkA).symm⟩
    subst eA'
    rw [List.length_append, List.length_singleton] at lA
    have epa : a = p := by
      rw [eL, List.append_assoc] at hp
      rw [List.getElem?_append_right (by omega)] at hp
      rw [show k - 1 - A'.length = 0 by omega] at hp
      exact Option.some.inj hp
    subst epa
    have hav : a < v := s1 a (by simp)
    match B, lB with
    | [], lB =>
      -- the last
      rw [List.length_nil] at lB
      have hkl : k + 1 = L.length := by omega
      rw [hkl, Nat.mod_self] at hq
      match A', lA with
      | [], lA => rw [List.length_nil] at lA; omega
      | a0 :: A'', lA =>
        rw [eL] at hq
        obtain rfl : a0 = q := by simpa using hq
        obtain rfl : a0 = lo := by simpa using hlo
        obtain rfl : a = hi := by
          rw [List.append_nil, List.getLast?_concat] at hhi
          exact Option.some.inj hhi
        match A'', lA with
        | [], lA => rw [List.length_singleton] at lA; omega
        | a1 :: A3, lA =>
          have h1 : a0 < a1 := (List.pairwise_cons.mp s3).1 a1 (by simp)
          have h2 : a1 < a := by
            have := (List.pairwise_cons.mp (List.pairwise_cons.mp s3).2).1 a (by simp)
            exact this
          have epr : pr a a0 = (a0, a) := by
            show (min a a0, max a a0) = _
            rw [Int.min_eq_right (by omega), Int.max_eq_left (by omega)]
          rw [epr]
          refine ⟨a0, v, by rw [eL]; rfl, by rw [eL, List.getLast?_concat], ear_last hc sm hav (x := a1) (by simp) ⟨h1, h2⟩⟩
    | b0 :: B', lB =>
      rw [List.length_cons] at lB
      rw [Nat.mod_eq_of_lt (by omega)] at hq
      have ebq : b0 = q := by
        rw [eL] at hq
        rw [List.getElem?_append_right (by rw [List.length_append, List.length_singleton]; omega), List.length_append, List.length_singleton] at hq
        rw [show k + 1 - (A'.length + 1) = 1 by omega] at hq
        exact Option.some.inj hq
      subst ebq
      have hvb : v < b0 := s2 b0 (by simp)
      have epr : pr a b0 = (a, b0) := by
        show (min a b0, max a b0) = _
        rw [Int.min_eq_left (by omega), Int.max_eq_right (by omega)]
      rw [epr]
      refine ⟨lo, hi, ?_, ?_, ear_mid hc sm nv (by simp) (by simp) hav hvb (fun z hz => ?_) ?_⟩
      · rw [eL]
        cases A' with
        | nil => simpa using hlo
        | cons x A' => simpa using hlo
      · rw [eL]
        rw [last_app (by simp)] at hhi ⊢
        rw [List.getLast?_cons_cons]
        exact hhi
      · rcases List.mem_append.mp hz with hz | hz
        · rcases List.mem_append.mp hz with hz | hz
          · have := (List.pairwise_append.mp s3).2.2 z hz a (by simp); omega
          · have := List.mem_singleton.mp hz; omega
        · rcases List.mem_cons.mp hz with hz | hz
          · omega
          · have := (List.pairwise_cons.mp s4).1 z hz; omega
      · rintro ⟨e1, e2⟩
        subst e1; subst e2
        have z1 : A' = [] := by
          cases A' with
          | nil => rfl
          | cons x A' =>
            obtain rfl : x = a := by simpa using hlo
            exact absurd ((List.pairwise_cons.mp s3).1 x (by simp)) (Int.lt_irrefl _)
        have z2 : B' = [] := by
          cases B' with
          | nil => rfl
          | cons x B' =>
            rw [last_app (by simp), List.getLast?_cons_cons] at hhi
            have hm : b0 ∈ x :: B' := List.mem_of_getLast? hhi
            exact absurd ((List.pairwise_cons.mp s4).1 b0 hm) (Int.lt_irrefl _)
        subst z1; subst z2
        simp only [List.length_nil] at lA lB
        omega
theorem cut3 {a b c : Int} (h1 : a < b) (h2 : b < c) : CutL [a, b, c] [] := by
  refine ⟨a, c, rfl, rfl, by simp, by simp, fun z hz => ?_, List.nodup_nil, .nd b .lf .lf, ⟨by simp, ⟨h1, fun z hz hh => ?_⟩, h2, fun z hz hh => ?_⟩, fun x y => ?_⟩
  · simp only [List.mem_cons, List.not_mem_nil, or_false] at hz
    omega
  · simp only [List.mem_cons, List.not_mem_nil, or_false] at hz
    omega
  · simp only [List.mem_cons, List.not_mem_nil, or_false] at hz
    omega
  · constructor
    · intro h; cases h
    · rintro ⟨w | w | w, n⟩
      · exact absurd (.inr w) n
      · obtain ⟨e1, e2⟩ := w
        refine absurd (.inl fun z hz hh => ?_) n
        simp only [List.mem_cons, List.not_mem_nil, or_false] at hz
        omega
      · obtain ⟨e1, e2⟩ := w
        refine absurd (.inl fun z hz hh => ?_) n
        simp only [List.mem_cons, List.not_mem_nil, or_false] at hz
        omega

/-! ### cuttings of n posts -/
def inR (n : Int) : Int → Prop := fun z => 0 ≤ z ∧ z < n
def rng (n : Int) : List Int := (List.range n.toNat).map (fun k : Nat => (k : Int))
def sidesL (n : Int) : List (Int × Int) := (rng (n - 1)).map (fun k => (k, k + 1)) ++ [(0, n - 1)]
theorem mem_rng {n z : Int} : z ∈ rng n ↔ 0 ≤ z ∧ z < n := by
  unfold rng
  rw [List.mem_map]
  constructor
  · rintro ⟨k, hk, rfl⟩
    have := List.mem_range.mp hk
    omega
  · rintro ⟨h1, h2⟩
    exact ⟨z.toNat, List.mem_range.mpr (by omega), by omega⟩
theorem rng_sorted (n : Int) : (rng n).Pairwise (· < ·) := by
  unfold rng
  rw [List.pairwise_map]
  exact (List.pairwise_lt_range).imp fun h => by omega
theorem rng_len (n : Int) : (rng n).length = n.toNat := by
  unfold rng; rw [List.length_map, List.length_range]
structure IsCut (n : Int) (R : List (Int × Int)) : Prop where
  three : 3 ≤ n
  nd : R.Nodup
  ex : ∃ T, TOk (inR n) 0 (n - 1) T ∧ ∀ a b, (a, b) ∈ R ↔ tie 0 (n - 1) T a b ∧ a + 2 ≤ b ∧ ¬ (a = 0 ∧ b = n - 1)
theorem isCut_of {n : Int} {R : List (Int × Int)} (h3 : 3 ≤ n) (h : CutL (rng n) R) : IsCut n R := by
  obtain ⟨lo, hi, hlo, hhi, hc⟩ := h
  have m1 := mem_rng.mp hc.slo
  have m2 := mem_rng.mp hc.shi
  have z1 := hc.bd 0 (mem_rng.mpr (by omega))
  have z2 := hc.bd (n - 1) (mem_rng.mpr (by omega))
  have e1 : lo = 0 := by omega
  have e2 : hi = n - 1 := by omega
  subst e1; subst e2
  obtain ⟨T, hT, hR⟩ := hc.ex
  have hT' : TOk (inR n) 0 (n - 1) T := hT.more (fun z hz => mem_rng.mp hz) fun z hz _ _ => mem_rng.mpr hz
  refine ⟨h3, hc.nd, T, hT', fun a b => (hR a b).trans ⟨?_, ?_⟩⟩
  · rintro ⟨t, n1⟩
    have ti := tie_in hT t
    refine ⟨t, ?_, fun e => n1 (.inr e)⟩
    rcases Int.lt_or_le (a + 1) b with h | h
    · omega
    · exact absurd (.inl fun z _ hh => by omega) n1
  · rintro ⟨t, g1, g2⟩
    have ti := tie_in hT t
    refine ⟨t, ?_⟩
    rintro (w | w)
    · exact w (a + 1) (mem_rng.mpr (by omega)) (by omega)
    · exact g2 w
theorem ties_iff {n : Int} {R : List (Int × Int)} {T : Tr} (h3 : 3 ≤ n) (hT : TOk (inR n) 0 (n - 1) T) (hR : ∀ a b, (a, b) ∈ R ↔ tie 0 (n - 1) T a b ∧ a + 2 ≤ b ∧ ¬ (a = 0 ∧ b = n - 1)) :
    ∀ a b, (a, b) ∈ sidesL n ++ R ↔ tie 0 (n - 1) T a b := by
  intro a b
  unfold sidesL
  rw [List.mem_append, List.mem_append, List.mem_singleton, List.mem_map, hR a b]
  constructor
  · rintro ((⟨k, hk, e⟩ | e) | h)
    · obtain ⟨rfl, rfl⟩ := Prod.mk.inj e
      have := mem_rng.mp hk
      exact tie_adj hT ⟨by omega, by omega⟩ ⟨by omega, by omega⟩ ⟨by omega, by omega⟩ ⟨by omega, by omega⟩ (by omega) (fun z _ hh => by omega) (by omega) (by omega)
    · obtain ⟨rfl, rfl⟩ := Prod.mk.inj e
      exact tie_root
    · exact h.1
  · intro t
    have ti := tie_in hT t
    by_cases h1 : a + 2 ≤ b
    · by_cases h2 : a = 0 ∧ b = n - 1
      · exact .inl (.inr (by rw [h2.1, h2.2]))
      · exact .inr ⟨t, h1, h2⟩
    · exact .inl (.inl ⟨a, mem_rng.mpr (by omega), by rw [show b = a + 1 by omega]⟩)
/-- x makes a plot with a and b -/
def Bes (lo hi : Int) (T : Tr) (a b x : Int) : Prop := (a < x ∧ x < b ∧ tie lo hi T a x ∧ tie lo hi T x b) ∨ (x < a ∧ tie lo hi T x a ∧ tie lo hi T x b) ∨ (b < x ∧ tie lo hi T a x ∧ tie lo hi T b x)
theorem bes_iff {S : Int → Prop} {lo hi a b x : Int} {T : Tr} (hT : TOk S lo hi T) (hab : a < b) : Bes lo hi T a b x ↔ tie lo hi T (min a x) (max a x) ∧ tie lo hi T (min b x) (max b x) := by
  constructor
  · rintro (⟨h1, h2, h3, h4⟩ | ⟨h1, h2, h3⟩ | ⟨h1, h2, h3⟩)
    · rw [Int.min_eq_left (by omega), Int.max_eq_right (by omega), Int.min_eq_right (by omega), Int.max_eq_left (by omega)]
      exact ⟨h3, h4⟩
    · rw [Int.min_eq_right (by omega), Int.max_eq_left (by omega), Int.min_eq_right (by omega), Int.max_eq_left (by omega)]
      exact ⟨h2, h3⟩
    · rw [Int.min_eq_left (by omega), Int.max_eq_right (by omega), Int.min_eq_left (by omega), Int.max_eq_right (by omega)]
      exact ⟨h2, h3⟩
  · rintro ⟨t, u⟩
    have t1 := tie_in hT t
    have u1 := tie_in hT u
    rcases Int.lt_trichotomy x a with h | h | h
    · rw [Int.min_eq_right (by omega), Int.max_eq_left (by omega)] at t u
      exact .inr (.inl ⟨h, t, u⟩)
    · omega
    · rcases Int.lt_trichotomy x b with g | g | g
      · rw [Int.min_eq_left (by omega), Int.max_eq_right (by omega)] at t
        rw [Int.min_eq_right (by omega), Int.max_eq_left (by omega)] at u
        exact .inl ⟨h, g, t, u⟩
      · omega
      · rw [Int.min_eq_left (by omega), Int.max_eq_right (by omega)] at t u
        exact .inr (.inr ⟨g, t, u⟩)
theorem bes_in {S : Int → Prop} {lo hi a b x y : Int} {T : Tr} (hT : TOk S lo hi T) (hab : a < b) (hx : Bes lo hi T a b x) (hy : Bes lo hi T a b y) (h1 : a < x) (h2 : x < b) (h3 : a < y) (h4 : y < b) : x = y := by
  rcases hx with ⟨_, _, x1, x2⟩ | ⟨_, x1, x2⟩ | ⟨_, x1, x2⟩ <;> rcases hy with ⟨_, _, y1, y2⟩ | ⟨_, y1, y2⟩ | ⟨_, y1, y2⟩ <;> first | omega | skip
  rcases Int.lt_trichotomy x y with h | h | h
  · exact (nocross hT y1 x2 h1 h h4).elim
  · exact h
  · exact (nocross hT x1 y2 h3 h h2).elim
theorem bes_out {S : Int → Prop} {lo hi a b x y : Int} {T : Tr} (hT : TOk S lo hi T) (hab : a < b) (hx : Bes lo hi T a b x) (hy : Bes lo hi T a b y) (h1 : ¬ (a < x ∧ x < b)) (h2 : ¬ (a < y ∧ y < b)) : x = y := by
  rcases hx with ⟨x0, x00, _, _⟩ | ⟨x0, x1, x2⟩ | ⟨x0, x1, x2⟩
  · exact absurd ⟨x0, x00⟩ h1
  · rcases hy with ⟨y0, y00, _, _⟩ | ⟨y0, y1, y2⟩ | ⟨y0, y1, y2⟩
    · exact absurd ⟨y0, y00⟩ h2
    · rcases Int.lt_trichotomy x y with h | h | h
      · exact (nocross hT x1 y2 h y0 hab).elim
      · exact h
      · exact (nocross hT y1 x2 h x0 hab).elim
    · exact (nocross hT x2 y1 x0 hab y0).elim
  · rcases hy with ⟨y0, y00, _, _⟩ | ⟨y0, y1, y2⟩ | ⟨y0, y1, y2⟩
    · exact absurd ⟨y0, y00⟩ h2
    · exact (nocross hT y2 x1 y0 hab x0).elim
    · rcases Int.lt_trichotomy x y with h | h | h
      · exact (nocross hT x1 y2 hab x0 h).elim
      · exact h
      · exact (nocross hT y1 x2 hab y0 h).elim
theorem sorted_ext {l m : List Int} (h1 : l.Pairwise (· < ·)) (h2 : m.Pairwise (· < ·)) (h : ∀ x, x ∈ l ↔ x ∈ m) : l = m := by
  have n1 : l.Nodup := h1.imp fun h => Int.ne_of_lt h
  have n2 : m.Nodup := h2.imp fun h => Int.ne_of_lt h
  exact List.Perm.eq_of_pairwise (le := (· < ·)) (fun a b _ _ x y => absurd (Int.lt_trans x y) (Int.lt_irrefl _)) h1 h2 ((List.perm_ext_iff_of_nodup n1 n2).mpr h)
def besL (t : List (Int × Int)) (n a b : Int) : List Int := (rng n).filter fun p => decide (pr a p ∈ t) && decide (pr b p ∈ t)
theorem besL_comm (t : List (Int × Int)) (n a b : Int) : besL t n a b = besL t n b a := by
  unfold besL
  refine List.filter_congr fun x _ => ?_
  rw [Bool.and_comm]
theorem besL_pr (t : List (Int × Int)) (n a b : Int) : besL t n a b = besL t n (pr a b).1 (pr a b).2 := by
  show _ = besL t n (min a b) (max a b)
  rcases Int.le_total a b with h | h
  · rw [Int.min_eq_left h, Int.max_eq_right h]
  · rw [Int.min_eq_right h, Int.max_eq_left h, besL_comm]
theorem besL_mem {n : Int} {t : List (Int × Int)} {T : Tr} (hT : TOk (inR n) 0 (n - 1) T) (ht : ∀ a b, (a, b) ∈ t ↔ tie 0 (n - 1) T a b) {a b : Int} (hab : a < b) : ∀ x, x ∈ besL t n a b ↔ Bes 0 (n - 1) T a b x := by
  intro x
  rw [bes_iff hT hab]
  unfold besL
  rw [List.mem_filter, Bool.and_eq_true, decide_eq_true_eq, decide_eq_true_eq, ht, ht, mem_rng]
  constructor
  · exact fun h => h.2
  · intro h
    have := tie_in hT h.1
    have := tie_in hT h.2
    refine ⟨?_, h⟩
    omega
theorem besL_sorted (t : List (Int × Int)) (n a b : Int) : (besL t n a b).Pairwise (· < ·) := (rng_sorted n).filter _
/-- beside a side stands one post, beside a rope two -/
theorem beside_side {n : Int} {t : List (Int × Int)} {T : Tr} (h3 : 3 ≤ n) (hT : TOk (inR n) 0 (n - 1) T) (ht : ∀ a b, (a, b) ∈ t ↔ tie 0 (n - 1) T a b) {a b : Int} (h : tie 0 (n - 1) T a b) (hs : ¬ (a + 2 ≤ b ∧ ¬ (a = 0 ∧ b = n - 1))) :
    ∃ m, besL t n a b = [m] := by
  have ti := tie_in hT h
  have hm := besL_mem hT ht ti.2.1
  by_cases h1 : a + 2 ≤ b
  · have h2 : a = 0 ∧ b = n - 1 := Decidable.by_contra fun q => hs ⟨h1, q⟩
    rcases inner hT h with q | ⟨m, q1, q2, q3, q4⟩
    · exact absurd (q (a + 1) ⟨by omega, by omega⟩) (by omega)
    · have hb : Bes 0 (n - 1) T a b m := .inl ⟨q1, q2, q3, q4⟩
      refine ⟨m, sorted_ext (besL_sorted ..) (List.pairwise_singleton ..) fun x => ?_⟩
      rw [hm, List.mem_singleton]
      constructor
      · intro g
        have : a < x ∧ x < b := by
          rcases g with ⟨g1, g2, _, _⟩ | ⟨g1, g2, g3⟩ | ⟨g1, g2, g3⟩
          · exact ⟨g1, g2⟩
          · have := tie_in hT g2; omega
          · have := tie_in hT g2; omega
        exact bes_in hT ti.2.1 g hb this.1 this.2 q1 q2
      · rintro rfl
        exact hb
  · obtain ⟨p, hp⟩ := outer hT h (by omega)
    have hb : Bes 0 (n - 1) T a b p := by
      rcases hp with hp | hp
      · exact .inr (.inl hp)
      · exact .inr (.inr hp)
    refine ⟨p, sorted_ext (besL_sorted ..) (List.pairwise_singleton ..) fun x => ?_⟩
    rw [hm, List.mem_singleton]
    constructor
    · intro g
      exact bes_out hT ti.2.1 g hb (by omega) (by omega)
    · rintro rfl
      exact hb
theorem beside_rope {n : Int} {t : List (Int × Int)} {T : Tr} (hT : TOk (inR n) 0 (n - 1) T) (ht : ∀ a b, (a, b) ∈ t ↔ tie 0 (n - 1) T a b) {a b : Int} (h : tie 0 (n - 1) T a b) (h1 : a + 2 ≤ b) (h2 : ¬ (a = 0 ∧ b = n - 1)) :
    ∃ m p T', a < m ∧ m < b ∧ TOk (inR n) 0 (n - 1) T' ∧ ((p < a ∧ 0 ≤ p ∧ besL t n a b = [p, m] ∧ ∀ x y, tie 0 (n - 1) T' x y ↔ (tie 0 (n - 1) T x y ∧ ¬ (x = a ∧ y = b)) ∨ (x = p ∧ y = m)) ∨
      (b < p ∧ p < n ∧ besL t n a b = [m, p] ∧ ∀ x y, tie 0 (n - 1) T' x y ↔ (tie 0 (n - 1) T x y ∧ ¬ (x = a ∧ y = b)) ∨ (x = m ∧ y = p))) := by
  have ti := tie_in hT h
  have hm := besL_mem hT ht ti.2.1
  obtain ⟨T', m, p, hT', g1, g2, g3, g4, g5⟩ := flip hT h h2 (fun q => q (a + 1) ⟨by omega, by omega⟩ (by omega))
  refine ⟨m, p, T', g1, g2, hT', ?_⟩
  have bm : Bes 0 (n - 1) T a b m := .inl ⟨g1, g2, g3, g4⟩
  rcases g5 with ⟨q1, q2, q3, q4⟩ | ⟨q1, q2, q3, q4⟩
  · have bp : Bes 0 (n - 1) T a b p := .inr (.inl ⟨q1, q2, q3⟩)
    refine .inl ⟨q1, (tie_in hT q2).1, sorted_ext (besL_sorted ..) (by simp; omega) fun x => ?_, q4⟩
    rw [hm]
    simp only [List.mem_cons, List.not_mem_nil, or_false]
    constructor
    · intro g
      by_cases hx : a < x ∧ x < b
      · exact .inr (bes_in hT ti.2.1 g bm hx.1 hx.2 g1 g2)
      · exact .inl (bes_out hT ti.2.1 g bp hx (by omega))
    · rintro (rfl | rfl)
      · exact bp
      · exact bm
  · have bp : Bes 0 (n - 1) T a b p := .inr (.inr ⟨q1, q2, q3⟩)
    have tq := tie_in hT q2
    refine .inr ⟨q1, by omega, sorted_ext (besL_sorted ..) (by simp; omega) fun x => ?_, q4⟩
    rw [hm]
    simp only [List.mem_cons, List.not_mem_nil, or_false]
    constructor
    · intro g
      by_cases hx : a < x ∧ x < b
      · exact .inl (bes_in hT ti.2.1 g bm hx.1 hx.2 g1 g2)
      · exact .inr (bes_out hT ti.2.1 g bp hx (by omega))
    · rintro (rfl | rfl)
      · exact bm
      · exact bp
theorem beside_cnt {n : Int} {R t : List (Int × Int)} (hc : IsCut n R) (ht : ∀ p, p ∈ t ↔ p ∈ sidesL n ++ R) {a b : Int} (h : pr a b ∈ t) : (besL t n a b).length = 1 + (if pr a b ∈ R then 1 else 0) := by
  obtain ⟨T, hT, hR⟩ := hc.ex
  have ht' : ∀ a b, (a, b) ∈ t ↔ tie 0 (n - 1) T a b := fun a b => (ht _).trans (ties_iff hc.three hT hR a b)
  rw [besL_pr]
  generalize e : pr a b = q at *
  obtain ⟨a', b'⟩ := q
  have h' := (ht' a' b').mp h
  show (besL t n a' b').length = _
  by_cases hr : a' + 2 ≤ b' ∧ ¬ (a' = 0 ∧ b' = n - 1)
  · rw [if_pos ((hR a' b').mpr ⟨h', hr⟩)]
    obtain ⟨m, p, T', _, _, _, g | g⟩ := beside_rope hT ht' h' hr.1 hr.2
    · rw [g.2.2.1]; rfl
    · rw [g.2.2.1]; rfl
  · rw [if_neg (fun q => hr ((hR a' b').mp q).2)]
    obtain ⟨m, e⟩ := beside_side hc.three hT ht' h' hr
    rw [e]; rfl
/-- turning a rope makes a cutting -/
theorem turn_cut {n : Int} {R t : List (Int × Int)} (hc : IsCut n R) (ht : ∀ p, p ∈ t ↔ p ∈ sidesL n ++ R) {a b : Int} (h : (a, b) ∈ R) :
    ∃ x y, besL t n a b = [x, y] ∧ 0 ≤ x ∧ x < y ∧ y < n ∧ (x, y) ∉ R ∧ ((x < a ∧ a < y ∧ y < b) ∨ (a < x ∧ x < b ∧ b < y)) ∧ ∀ R' : List (Int × Int), R'.Nodup → (∀ p, p ∈ R' ↔ (p ∈ R ∧ p ≠ (a, b)) ∨ p = (x, y)) → IsCut n R' := by
  obtain ⟨T, hT, hR⟩ := hc.ex
  have ht' : ∀ a b, (a, b) ∈ t ↔ tie 0 (n - 1) T a b := fun a b => (ht _).trans (ties_iff hc.three hT hR a b)
  obtain ⟨h1, h2, h3⟩ := (hR a b).mp h
  have ti := tie_in hT h1
  obtain ⟨m, p, T', g1, g2, hT', g | g⟩ := beside_rope hT ht' h1 h2 h3
  · obtain ⟨q1, q2, q3, q4⟩ := g
    refine ⟨p, m, q3, q2, by omega, by omega, fun hm => ?_, .inl ⟨q1, g1, g2⟩, fun R' hn hR' => ⟨hc.three, hn, T', hT', fun x y => ?_⟩⟩
    · exact nocross hT ((hR p m).mp hm).1 h1 q1 g1 g2
    · rw [hR', hR, q4]
      constructor
      · rintro (⟨⟨w1, w2⟩, w3⟩ | w)
        · exact ⟨.inl ⟨w1, fun e => w3 (by rw [e.1, e.2])⟩, w2⟩
        · obtain ⟨rfl, rfl⟩ := Prod.mk.inj w
          exact ⟨.inr ⟨rfl, rfl⟩, by omega, by omega⟩
      · rintro ⟨⟨w1, w2⟩ | ⟨e1, e2⟩, w3⟩
        · exact .inl ⟨⟨w1, w3⟩, fun e => w2 (Prod.mk.inj e)⟩
        · exact .inr (by rw [e1, e2])
  · obtain ⟨q1, q2, q3, q4⟩ := g
    refine ⟨m, p, q3, by omega, by omega, q2, fun hm => ?_, .inr ⟨g1, g2, q1⟩, fun R' hn hR' => ⟨hc.three, hn, T', hT', fun x y => ?_⟩⟩
    · exact nocross hT h1 ((hR m p).mp hm).1 g1 g2 q1
    · rw [hR', hR, q4]
      constructor
      · rintro (⟨⟨w1, w2⟩, w3⟩ | w)
        · exact ⟨.inl ⟨w1, fun e => w3 (by rw [e.1, e.2])⟩, w2⟩
        · obtain ⟨rfl, rfl⟩ := Prod.mk.inj w
          exact ⟨.inr ⟨rfl, rfl⟩, by omega, by omega⟩
      · rintro ⟨⟨w1, w2⟩ | ⟨e1, e2⟩, w3⟩
        · exact .inl ⟨⟨w1, w3⟩, fun e => w2 (Prod.mk.inj e)⟩
        · exact .inr (by rw [e1, e2])

theorem cut_ints (rs : List Int) (lo : Int) (h0 : 0 ≤ lo) : ∃ rs' : List Int, cutV (rs.map V.int) (some lo) none = rs'.map V.int ∧ rs'.length = rs.length - lo.toNat := by
  refine ⟨(rs.drop lo.toNat), ?_, List.length_drop⟩
  unfold cutV
  rw [HT.sIx_none]
  have e : HT.sIx (rs.map V.int).length 0 (some lo) = min lo.toNat (rs.map V.int).length := by
    show (if lo < 0 then _ else _) = _
    rw [if_neg (by omega)]
  rw [e, List.length_map]
  have h2 : (rs.map V.int).drop (min lo.toNat rs.length) = (rs.drop lo.toNat).map V.int := by
    rw [List.map_drop]
    rcases Nat.le_total lo.toNat rs.length with h | h
    · rw [Nat.min_eq_left h]
    · rw [Nat.min_eq_right h, List.drop_of_length_le (by rw [List.length_map]; exact Nat.le_refl _), List.drop_of_length_le (by rw [List.length_map]; exact h)]
  rw [h2, List.take_of_length_le]
  rw [List.length_map, List.length_drop]
  omega
theorem int_at {rs : List Int} {k : Nat} (h : k < rs.length) : ∃ v : Int, v ∈ rs ∧ atI (rs.map V.int) (k : Int) = some (.int v) := by
  refine ⟨rs[k], List.getElem_mem h, atI_nat ?_⟩
  rw [List.getElem?_map, List.getElem?_eq_getElem h]
  rfl

theorem cut_take (xs : List V) (k : Nat) : cutV xs none (some (k : Int)) = xs.take k := by
  unfold cutV
  rw [HT.sIx_none, HT.sIx_nat, List.drop_zero, Nat.sub_zero, Nat.min_def]
  split
  · rfl
  · rw [List.take_length, List.take_of_length_le (by omega)]
theorem cut_drop (xs : List V) (k : Nat) : cutV xs (some (k : Int)) none = xs.drop k := by
  unfold cutV
  rw [HT.sIx_none, HT.sIx_nat]
  have e : xs.drop (min k xs.length) = xs.drop k := by
    rw [Nat.min_def]
    split
    · rfl
    · rw [List.drop_length, List.drop_of_length_le (by omega)]
  rw [e, List.take_of_length_le]
  rw [List.length_drop]
  omega
theorem yes_read {A B : Hp → Prop} {σ : L2.St} {H : Hp} (h : A H) : tYes σ H (fun b H3 => if b = true then A H3 else B H3) := by
  show if true = true then A H else B H
  rw [if_pos rfl]
  exact h
theorem small200 {n : Nat} (h : n ≤ 200) : n ≤ sizeLine := Nat.le_trans h (by decide)
theorem small200' {n : Nat} (h : n < 200) : n < sizeLine := Nat.lt_of_lt_of_le h (by decide)
theorem take_more {α : Type} {l : List α} {i : Nat} {x : α} (h : l[i]? = some x) : l.take (i + 1) = l.take i ++ [x] := by
  rw [List.take_add_one, h]; rfl
theorem rng_more (n : Int) (i : Nat) (h : i < n.toNat) : (rng n).take (i + 1) = (rng n).take i ++ [(i : Int)] := by
  refine take_more ?_
  unfold rng
  rw [List.getElem?_map, List.getElem?_range h]
  rfl

theorem and_t {A B : Prop} [Decidable A] [Decidable B] (h : decide A = true) : decide (A ∧ B) = decide B := by
  have := of_decide_eq_true h
  rw [decide_eq_decide]
  exact ⟨fun h => h.2, fun h => ⟨this, h⟩⟩
theorem and_f {A B : Prop} [Decidable A] [Decidable B] (h : ¬ decide A = true) : decide (A ∧ B) = false := decide_eq_false fun q => nd h q.1
theorem pmin (a b : Int) : (if b < a then b else a) = min a b := by
  by_cases h : b < a
  · rw [if_pos h, Int.min_eq_right (by omega)]
  · rw [if_neg h, Int.min_eq_left (by omega)]
theorem pmax (a b : Int) : (if b > a then b else a) = max a b := by
  by_cases h : b > a
  · rw [if_pos h, Int.max_eq_right (by omega)]
  · rw [if_neg h, Int.max_eq_left (by omega)]

/-! ### a cutting drawn -/
def sp_many (K : PySem.W.Frag) : Sp := fun vs H Q _ => ∃ (p : Addr) (rs : List Int), vs = [.ref p] ∧ SqL K H p (rs.map V.int) ∧ 2 ≤ rs.length ∧ ∀ n : Int, 3 ≤ n → n ≤ 12 → Q (.int n) H
theorem ok__law_many (T : Env K mg) : FnOk P w K mg base CX0 1 T.a__law_many T.fd__law_many ["_law_row"] (sp_many K) := by
  refine T.F__law_many.ok sc__law_many (fun vs H Q E h => ?_) (fun cdv A outer s H vs Q E hr h => ?_)
  · obtain ⟨p, rs, rfl, _⟩ := h
    rfl
  · obtain ⟨p, rs, rfl, hS, hl, q⟩ := h
    refine ⟨_, (pss_cons (ps_if (pt_cmpR op_eq (pe_op op_mod (pe_ix ix_list (pv 0) pe_int (fun _ _ => rfl)) pe_int) pe_int (nomark _))
 (pss_one (ps_ret (pe_op op_add pe_int (pe_op op_mod (pe_ix ix_list (pv 0) pe_int (fun _ _ => rfl)) pe_int))))
 pss_nil)
 (pss_one (ps_ret (pe_op op_add pe_int (pe_op op_mod (pe_ix ix_list (pv 0) pe_int (fun _ _ => rfl)) pe_int))))), ?_⟩
    obtain ⟨r0, m0, a0⟩ := int_at (rs := rs) (k := 0) (by omega)
    obtain ⟨r1, m1, a1⟩ := int_at (rs := rs) (k := 1) (by omega)
    have h4 := Int.emod_nonneg r1 (show (4 : Int) ≠ 0 by decide)
    have h4' := Int.emod_lt_of_pos r1 (show (0 : Int) < 4 by decide)
    have h6 := Int.emod_nonneg r1 (show (6 : Int) ≠ 0 by decide)
    have h6' := Int.emod_lt_of_pos r1 (show (0 : Int) < 6 by decide)
    refine ⟨_, rfl, p, _, _, _, rfl, rfl, hS, a0, _, _, rfl, rfl, (by show (0 : Int) < _; decide), rfl, _, rfl, ite2 (fun _ => ?_) (fun _ => ?_)⟩
    · exact ⟨_, rfl, p, _, _, _, rfl, rfl, hS, a1, _, _, rfl, rfl, (by show (0 : Int) < _; decide), _, _, rfl, rfl, q _ (by omega) (by omega)⟩
    · exact ⟨_, rfl, p, _, _, _, rfl, rfl, hS, a1, _, _, rfl, rfl, (by show (0 : Int) < _; decide), _, _, rfl, rfl, q _ (by omega) (by omega)⟩

def sp_pair : Sp := fun vs H Q _ => ∃ a b : Int, vs = [.int a, .int b] ∧ ∀ t, H t = none → Q (.ref t) (upd H t (.tup [.int (pr a b).1, .int (pr a b).2]))
theorem ok__law_pair (T : Env K mg) : FnOk P w K mg base CX0 1 T.a__law_pair T.fd__law_pair ["_law_a", "_law_b"] sp_pair := by
  refine T.F__law_pair.ok sc__law_pair (fun vs H Q E h => ?_) (fun cdv A outer s H vs Q E hr h => ?_)
  · obtain ⟨a, b, rfl, _⟩ := h
    rfl
  · obtain ⟨a, b, rfl, q⟩ := h
    refine ⟨_, (pss_one (ps_ret (pe_tup (pa_cons (pe_callB (call_min2 rfl) (by rfl) T.m_min (by decide +kernel) (pa_cons (pv 0) (pa_cons (pv 1) pa_nil))) (pa_cons (pe_callB (call_max2 rfl) (by rfl) T.m_max (by decide +kernel) (pa_cons (pv 0) (pa_cons (pv 1) pa_nil))) pa_nil))))), ?_⟩
    refine ⟨_, rfl, _, rfl, _, _, rfl, _, rfl, _, rfl, _, _, rfl, small200 (by show 2 ≤ 200; decide), fun t ht => ?_⟩
    have := q t ht
    rw [pmin, pmax]
    exact this
def TrAt (H : Hp) (x : V) (e : Int × Int × Int) : Prop := ∃ t, x = V.ref t ∧ H t = some (.tup [.int e.1, .int e.2.1, .int e.2.2])
abbrev TrL (H : Hp) (xs : List V) (l : List (Int × Int × Int)) : Prop := All2 (TrAt H) xs l
theorem TrL.tups {H H' : Hp} {xs : List V} {l : List (Int × Int × Int)} (s : TupS H H') (h : TrL H xs l) : TrL H' xs l := All2.mono h fun _ _ ⟨t, e, ht⟩ => ⟨t, e, s _ _ ht⟩
abbrev earR (e : Int × Int × Int) : Int × Int := pr e.2.1 e.2.2
def sp_ears (K : PySem.W.Frag) : Sp := fun vs H Q _ => ∃ (n : Int) (r : Addr) (rs : List Int), vs = [.int n, .ref r] ∧ 3 ≤ n ∧ n ≤ 12 ∧ SqL K H r (rs.map V.int) ∧ n ≤ rs.length + 3 ∧ rowOk rs ∧
  ∀ H' p xs es, Same H H' → H p = none → H' p = some (.lst xs) → TrL H' xs es → (es.length : Int) = n - 3 → IsCut n (es.map earR) → Q (.ref p) H'
theorem rng_perm_step {n : Int} {E : List (Int × Int)} {L : List Int} {r : Int × Int} {L' : List Int} (h : ∀ R, CutL L R → CutL (rng n) (E ++ R)) (s : ∀ R, CutL L' R → CutL L (r :: R)) : ∀ R, CutL L' R → CutL (rng n) ((E ++ [r]) ++ R) := fun R hR => by
  rw [List.append_assoc]
  exact h _ (s R hR)
def earW (n : Int) (r p : Addr) (H : Hp) : Nat → L2.St → Hp → Prop := fun m σ H' => ∃ (l : Addr) (k : Option V) (xs : List V) (es : List (Int × Int × Int)) (L : List Int), σ = [some (.int n), some (.ref r), k, some (.ref l), some (.ref p)] ∧ Same H H' ∧ H' p = some (.lst xs) ∧ l ≠ p ∧ TrL H' xs es ∧ H' l = some (.lst (L.map V.int)) ∧ L.length = m ∧ 3 ≤ m ∧ ((es.length + m : Nat) : Int) = n ∧ L.Pairwise (· < ·) ∧ ∀ R, CutL L R → CutL (rng n) (es.map earR ++ R)
theorem int_atN {rs : List Int} {k : Nat} (h : k < rs.length) : ∃ v : Int, rs[k]? = some v ∧ atI (rs.map V.int) (k : Int) = some (.int v) := by
  refine ⟨rs[k], List.getElem?_eq_getElem h, atI_nat ?_⟩
  rw [List.getElem?_map, List.getElem?_eq_getElem h]
  rfl
theorem ear_prev {L : List Int} {k : Nat} (hk : k < L.length) : ∃ p : Int, (if k = 0 then L.getLast? else L[k - 1]?) = some p ∧ atI (L.map V.int) ((k : Int) - 1) = some (.int p) := by
  by_cases h : k = 0
  · subst h
    have hne : L ≠ [] := fun e => by rw [e] at hk; cases hk
    refine ⟨L.getLast hne, by rw [if_pos rfl, List.getLast?_eq_some_getLast hne], ?_⟩
    have e : L.map V.int = L.dropLast.map V.int ++ [V.int (L.getLast hne)] := by
      rw [← List.map_singleton, ← List.map_append, List.dropLast_concat_getLast hne]
    rw [e]
    exact atI_last _ _
  · obtain ⟨v, e1, e2⟩ := int_atN (rs := L) (k := k - 1) (by omega)
    refine ⟨v, by rw [if_neg h]; exact e1, ?_⟩
    rw [show (k : Int) - 1 = ((k - 1 : Nat) : Int) by omega]
    exact e2
theorem ok__law_ears (T : Env K mg) : FnOk P w K mg base CX0 1 T.a__law_ears T.fd__law_ears ["_law_n", "_law_row"] (sp_ears K) := by
  refine T.F__law_ears.ok sc__law_ears (fun vs H Q E h => ?_) (fun cdv A outer s H vs Q E hr h => ?_)
  · obtain ⟨n, r, rs, rfl, _⟩ := h
    rfl
  · obtain ⟨n, r, rs, rfl, h3, h12, hS, hl, hro, q⟩ := h
    refine ⟨_, (pss_cons (ps_setLc (i := 3) (own := [("_law_k", 2)]) (by rfl) sc__law_ears.nd rfl rfl (sw_true rfl rfl rfl (by decide +kernel)) (pi_range1 (by rfl) T.m_range (pa_cons (pv 0) pa_nil)) (blkOk_by (own := [("_law_k", 2)]) (N := ["_law_n", "_law_row", "_law_k", "_law_left", "_law_ears_here"]) (sc := defScope s__law_ears) (by decide +kernel)) (fun _ _ _ _ _ => (pg_name (i := 2) sc__law_ears.nd rfl (.inl rfl))) (fun _ _ _ _ _ => pts_nil) (fun _ _ _ _ _ => (pv 2)))
 (pss_cons (ps_set (i := 4) sc__law_ears.nd rfl (.inl rfl) (pe_lst pa_nil))
 (pss_cons (ps_while PassesOwn.never (pt_cmpR op_gt (pe_callB call_len_seq (by rfl) T.m_len (by decide +kernel) (pa_cons (pv 3) pa_nil)) pe_int (nomark _))
 (C8.pss_cut (ps_set (i := 2) sc__law_ears.nd rfl (.inl rfl) (pe_op op_mod (pe_ix ix_list (pv 1) (pe_callB call_len_seq (by rfl) T.m_len (by decide +kernel) (pa_cons (pv 4) pa_nil)) (fun _ _ => rfl)) (pe_callB call_len_seq (by rfl) T.m_len (by decide +kernel) (pa_cons (pv 3) pa_nil))))
 (pss_cons (ps_expr (pe_bm PySem.F.plainAttrs_list PySem.F.slot_list_append PySem.F.type_list_append mt_append (pv 4) (pa_cons (pe_tup (pa_cons (pe_ix ix_list (pv 3) (pv 2) (fun _ _ => rfl)) (pa_cons (pe_ix ix_list (pv 3) (pe_op op_sub (pv 2) pe_int) (fun _ _ => rfl)) (pa_cons (pe_ix ix_list (pv 3) (pe_op op_mod (pe_op op_add (pv 2) pe_int) (pe_callB call_len_seq (by rfl) T.m_len (by decide +kernel) (pa_cons (pv 3) pa_nil))) (fun _ _ => rfl)) pa_nil)))) pa_nil)))
 (pss_one (ps_set (i := 3) sc__law_ears.nd rfl (.inl rfl) (pe_op op_cat (pe_slice sl_list (pv 3) po_none (po_some (pv 2))) (pe_slice sl_list (pv 3) (po_some (pe_op op_add (pv 2) pe_int)) po_none)))))))
 (pss_one (ps_ret (pv 4)))))), ?_⟩
    refine ⟨_, rfl, n, rfl, by omega, by omega, fun D hD => ?_⟩
    refine lc_range (lo := 0) (n := n.toNat) (fun j H2 => Same H H2 ∧ H2 D = some (.lst (((rng n).take j).map V.int))) ⟨same_new hD, upd_same⟩ ?_ ?_
    · rintro j H2 hj ⟨s2, hd2⟩
      refine ⟨rfl, yes_read ?_⟩
      refine ⟨_, rfl, _, hd2, small200' ?_, same_put s2 hD, ?_⟩
      · rw [List.length_map, List.length_take]; omega
      · rw [upd_same, rng_more n j hj, List.map_append, Int.zero_add]; rfl
    rintro H2 ⟨s2, hd2⟩
    rw [List.take_of_length_le (by rw [rng_len]; exact Nat.le_refl _)] at hd2
    refine ⟨Nat.zero_le _, fun p hp => ?_⟩
    have s3 : Same H2 _ := same_new (o := .lst []) hp
    have hDp : D ≠ p := ne_of_none hd2 hp
    have hpH : H p = none := by
      cases e : H p with
      | none => rfl
      | some o => rw [s2 _ _ e] at hp; cases hp
    refine ⟨earW n r p H, ⟨n.toNat, D, _, [], [], rng n, rfl, s2.trans s3, upd_same, hDp, .nil, s3 _ _ hd2, rng_len n, by omega, by simp; omega, rng_sorted n, fun R hR => hR⟩, ?_⟩
    rintro m σ H' ⟨l, k, xs, es, L, rfl, s4, hpx, hlp, hE, hL, rfl, hm3, hcnt, hLs, hcut⟩
    have hLl : (L.map V.int).length = L.length := List.length_map _
    have hSL : SqL K H' l (L.map V.int) := .inl (.inl hL)
    refine ⟨_, rfl, _, _, rfl, .inl hSL, _, _, rfl, rfl, _, rfl, ite2 (fun hd => ?_) (fun hd => ?_)⟩
    · have h4 : 4 ≤ L.length := by
        have := of_decide_eq_true hd
        rw [hLl] at this
        omega
      refine ⟨fun σ' H2 => ∃ m', m' < L.length ∧ earW n r p H m' σ' H2, fun _ _ h => h, ?_⟩
      have hxl := hE.length
      have hSR : SqL K H' r (rs.map V.int) := s4.seq hS
      obtain ⟨v0, mv0, av0⟩ := int_at (rs := rs) (k := es.length) (by omega)
      have b0 := hro v0 mv0
      refine ⟨fun σ' H2 => H2 = H' ∧ ∃ j : Nat, j < L.length ∧ σ' = [some (.int n), some (.ref r), some (.int (j : Int)), some (.ref l), some (.ref p)], ?_, ?_⟩
      · refine ⟨_, rfl, _, rfl, _, _, rfl, .inl (.inl (.inl hpx)), r, _, _, V.int v0, rfl, rfl, hSR, (by rw [hxl]; exact av0), _, rfl, _, _, rfl, .inl hSL, _, _, rfl, rfl, (by show (0 : Int) < _; omega), ?_⟩
        rw [hLl]
        refine ⟨rfl, (v0 % (L.length : Int)).toNat, ?_, ?_⟩
        · have k0 := Int.emod_nonneg v0 (show (L.length : Int) ≠ 0 by omega)
          have k1 := Int.emod_lt_of_pos v0 (show (0 : Int) < (L.length : Int) by omega)
          omega
        · rw [Int.toNat_of_nonneg (Int.emod_nonneg v0 (show (L.length : Int) ≠ 0 by omega))]; rfl
      rintro _ H' ⟨rfl, j, hjL, rfl⟩
      obtain ⟨v, ev, av⟩ := int_atN hjL
      obtain ⟨pv', ep, ap⟩ := ear_prev hjL
      obtain ⟨q', eq, aq⟩ := int_atN (rs := L) (k := (j + 1) % L.length) (Nat.mod_lt _ (by omega))
      have aq' : atI (L.map V.int) (((j : Int) + 1) % (L.length : Int)) = some (.int q') := by
        have e1 : ((j + 1 : Nat) : Int) = (j : Int) + 1 := by omega
        rw [← e1, ← Int.natCast_emod]
        exact aq
      have stp := fun R hR => ear_step (R := R) hLs h4 ev ep eq hR
      refine ⟨_, rfl, .inl ⟨rfl, _, .inl (.inl hpx)⟩, ?_⟩
      refine ⟨_, rfl, _, rfl, l, _, _, _, rfl, rfl, hSL, av, ?_⟩
      refine ⟨_, rfl, _, rfl, _, _, rfl, rfl, l, _, _, _, rfl, rfl, hSL, ap, ?_⟩
      refine ⟨_, rfl, _, rfl, _, _, rfl, rfl, _, rfl, _, _, rfl, .inl hSL, _, _, rfl, rfl, (by show (0 : Int) < _; rw [hLl]; omega), l, _, _, _, rfl, rfl, hSL, (by rw [hLl]; exact aq'), ?_⟩
      refine ⟨small200 (by show 3 ≤ 200; decide), fun t ht => ?_⟩
      have s5 : Same H' _ := same_new (o := .tup [.int v, .int pv', .int q']) ht
      have et : (upd H' t (.tup [.int v, .int pv', .int q'])) t = some (.tup [.int v, .int pv', .int q']) := upd_same
      generalize upd H' t (.tup [.int v, .int pv', .int q']) = H5 at *
      refine ⟨p, xs, _, rfl, rfl, s5 _ _ hpx, small200' (by omega), ?_⟩
      have hE5 : TrL (upd H5 p (.lst (xs ++ [.ref t]))) (xs ++ [.ref t]) (es ++ [(v, pv', q')]) := by
        have ts := TupS.put (o := .lst (xs ++ [.ref t])) (s5 _ _ hpx)
        exact (hE.tups ((TupS.of s5).trans ts)).app (.one ⟨t, rfl, ts _ _ et⟩)
      have hL5 : (upd H5 p (.lst (xs ++ [.ref t]))) l = some (.lst (L.map V.int)) := by
        rw [upd_ne hlp]; exact s5 _ _ hL
      have s6 : Same H (upd H5 p (.lst (xs ++ [.ref t]))) := fun b o e => by
        rw [upd_ne (ne_of_none e hpH)]
        exact s5 _ _ (s4 _ _ e)
      have hp6 : (upd H5 p (.lst (xs ++ [.ref t]))) p = some (.lst (xs ++ [.ref t])) := upd_same
      generalize upd H5 p (.lst (xs ++ [.ref t])) = H6 at *
      refine ⟨_, rfl, _, rfl, _, rfl, l, _, rfl, .inl (.inl hL5), fun c1 g1 => ?_⟩
      have u1 : Same H6 _ := same_new (o := .lst (cutV (L.map V.int) none (some (j : Int)))) g1
      have e1 : (upd H6 c1 (.lst (cutV (L.map V.int) none (some (j : Int))))) c1 = some (.lst ((L.map V.int).take j)) := by rw [upd_same, cut_take]
      generalize upd H6 c1 (.lst (cutV (L.map V.int) none (some (j : Int)))) = H7 at *
      refine ⟨_, rfl, _, rfl, _, _, rfl, rfl, _, rfl, l, _, rfl, .inl (.inl (u1 _ _ hL5)), fun c2 g2 => ?_⟩
      have u2 : Same H7 _ := same_new (o := .lst (cutV (L.map V.int) (some ((j : Int) + 1)) none)) g2
      have e2 : (upd H7 c2 (.lst (cutV (L.map V.int) (some ((j : Int) + 1)) none))) c2 = some (.lst ((L.map V.int).drop (j + 1))) := by
        rw [upd_same, show (j : Int) + 1 = ((j + 1 : Nat) : Int) by omega, cut_drop]
      generalize upd H7 c2 (.lst (cutV (L.map V.int) (some ((j : Int) + 1)) none)) = H8 at *
      have hlen : ((L.take j ++ L.drop (j + 1))).length = L.length - 1 := by
        rw [List.length_append, List.length_take, List.length_drop]; omega
      refine ⟨c1, c2, _, _, rfl, rfl, u2 _ _ e1, e2, small200 ?_, fun c3 g3 => ?_⟩
      · rw [← List.map_take, ← List.map_drop, ← List.length_append, ← List.map_append, List.length_map, hlen]
        omega
      have u3 : Same H8 _ := same_new (o := .lst ((L.map V.int).take j ++ (L.map V.int).drop (j + 1))) g3
      refine ⟨L.length - 1, by omega, c3, _, _, _, L.take j ++ L.drop (j + 1), rfl, ((s6.trans u1).trans u2).trans u3, u3 _ _ (u2 _ _ (u1 _ _ hp6)), (ne_of_none (u2 _ _ (u1 _ _ hp6)) g3).symm, hE5.tups (TupS.of ((u1.trans u2).trans u3)), ?_, hlen, by omega, ?_, ?_, ?_⟩
      · rw [upd_same, List.map_append, List.map_take, List.map_drop]
      · rw [List.length_append, List.length_singleton]; omega
      · exact hLs.sublist (by
          have h := List.Sublist.append (List.Sublist.refl (L.take j)) (List.drop_sublist_drop_left L (show j ≤ j + 1 by omega))
          rw [List.take_append_drop] at h
          exact h)
      · rw [List.map_append]
        exact rng_perm_step hcut stp
    · have hL3 : L.length = 3 := by
        have := nd hd
        rw [hLl] at this
        omega
      obtain ⟨a, b, c, rfl⟩ : ∃ a b c, L = [a, b, c] := by
        match L, hL3 with
        | [a, b, c], _ => exact ⟨a, b, c, rfl⟩
      have c1 := (List.pairwise_cons.mp hLs).1 b (by simp)
      have c2 := (List.pairwise_cons.mp (List.pairwise_cons.mp hLs).2).1 c (by simp)
      have c3 := hcut [] (cut3 c1 c2)
      rw [List.append_nil] at c3
      exact ⟨_, rfl, q H' p xs es s4 hpH hpx hE (by omega) (isCut_of h3 c3)⟩


/-! ### the ropes of a drawn cutting, sides, ties -/
theorem sp_new {H H' : Hp} {q : Addr} {o : HO} {H2 : Hp} (s : Same H H2) (h : H2 q = none) : Same H (upd H2 q o) := s.trans (same_new h)
theorem none_back {H H' : Hp} {q : Addr} (s : Same H H') (h : H' q = none) : H q = none := by
  cases e : H q with
  | none => rfl
  | some o => rw [s _ _ e] at h; cases h
def sp_ropes (K : PySem.W.Frag) : Sp := fun vs H Q _ => ∃ (p : Addr) (xs : List V) (es : List (Int × Int × Int)), vs = [.ref p] ∧ H p = some (.lst xs) ∧ TrL H xs es ∧ es.length ≤ 100 ∧
  ∀ H' q ys, Same H H' → H q = none → H' q = some (.lst ys) → PrL K H' ys (sort2 (es.map earR)) → Q (.ref q) H'
theorem ok__law_ropes (T : Env K mg) : FnOk P w K mg base CX0 2 T.a__law_ropes T.fd__law_ropes ["_law_ears_here"] (sp_ropes K) := by
  refine T.F__law_ropes.ok sc__law_ropes (fun vs H Q E h => ?_) (fun cdv A outer s H vs Q E hr h => ?_)
  · obtain ⟨p, xs, es, rfl, _⟩ := h
    rfl
  · obtain ⟨p, xs, es, rfl, hp, hE, hl, q⟩ := h
    refine ⟨_, (pss_one (ps_ret (pe_callB cr_sort2 (by rfl) T.m_sorted (by decide +kernel) (pa_cons (pe_lc (own := [("_law_ear", 1)]) (by rfl) sc__law_ropes.nd (pi_list (pv 0)) (blkOk_by (own := [("_law_ear", 1)]) (N := ["_law_ears_here", "_law_ear"]) (sc := defScope s__law_ropes) (by decide +kernel)) (fun _ _ _ _ _ => (pg_name (i := 1) sc__law_ropes.nd rfl (.inl rfl))) (fun _ _ _ _ _ => pts_nil) (fun _ _ _ _ _ => (pe_call (ok__law_pair T) (hr.mono (by decide)) (by rfl) T.g__law_pair T.F__law_pair.kp T.b__law_pair .nil pass0 (pa_cons (pe_ix (r := rIxT K) ix_tup (pv 1) pe_int (fun _ _ => rfl)) (pa_cons (pe_ix (r := rIxT K) ix_tup (pv 1) pe_int (fun _ _ => rfl)) pa_nil))))) pa_nil)))), ?_⟩
    have hxl := hE.length
    refine ⟨_, rfl, p, rfl, ⟨_, .inl (.inl hp)⟩, fun D hD => ?_⟩
    refine lc_list (K := K) (a := p) (xs := xs) (fun i H' => ∃ zs, Same H H' ∧ H' D = some (.lst zs) ∧ PrL K H' zs ((es.map earR).take i)) ⟨[], same_new hD, upd_same, by rw [List.take_zero]; exact .nil⟩ ?_ ?_ ?_
    · rintro i H' _ ⟨zs, s2, _, _⟩
      exact .inl (.inl (s2 _ _ hp))
    · rintro i x H' hi ⟨zs, s2, hz, hZ⟩
      obtain ⟨e, he, t, rfl, ht⟩ := hE.at hi
      have hT : SqT K H' t [.int e.1, .int e.2.1, .int e.2.2] := .inl (.inl (s2 _ _ ht))
      refine ⟨rfl, yes_read ?_⟩
      refine ⟨_, rfl, t, _, _, _, rfl, rfl, hT, atI_nat (j := 1) rfl, _, rfl, t, _, _, _, rfl, rfl, hT, atI_nat (j := 2) rfl, e.2.1, e.2.2, rfl, fun u hu => ?_⟩
      have s3 : Same H' _ := same_new (o := .tup [.int (pr e.2.1 e.2.2).1, .int (pr e.2.1 e.2.2).2]) hu
      have hu2 : (upd H' u (.tup [.int (pr e.2.1 e.2.2).1, .int (pr e.2.1 e.2.2).2])) u = some (.tup [.int (pr e.2.1 e.2.2).1, .int (pr e.2.1 e.2.2).2]) := upd_same
      generalize upd H' u (.tup [.int (pr e.2.1 e.2.2).1, .int (pr e.2.1 e.2.2).2]) = H3 at *
      have hzl := hZ.length
      rw [List.length_take, List.length_map] at hzl
      refine ⟨zs, s3 _ _ hz, small200' (by omega), zs ++ [.ref u], ?_, upd_same, ?_⟩
      · intro b o eb
        rw [upd_ne (ne_of_none eb hD)]
        exact s3 _ _ (s2 _ _ eb)
      · have em : (es.map earR)[i]? = some (earR e) := by rw [List.getElem?_map, he]; rfl
        rw [take_more em]
        have ts := TupS.put (o := .lst (zs ++ [.ref u])) (s3 _ _ hz)
        exact (hZ.tups ((TupS.of s3).trans ts)).app (.one ⟨u, rfl, ts _ _ hu2⟩)
    · rintro H' ⟨zs, s2, hz, hZ⟩
      rw [List.take_of_length_le (by rw [List.length_map]; omega)] at hZ
      refine ⟨D, zs, _, rfl, .inl (.inl hz), hZ, fun ys u hY hu => ?_⟩
      have s3 : Same H' _ := same_new (o := .lst ys) hu
      exact q _ u ys (s2.trans s3) (none_back s2 hu) upd_same (hY.mono s3)
def sp_sides (K : PySem.W.Frag) : Sp := fun vs H Q _ => ∃ n : Int, vs = [.int n] ∧ 3 ≤ n ∧ n ≤ 12 ∧ ∀ H' q ys, Same H H' → H q = none → H' q = some (.lst ys) → PrL K H' ys (sidesL n) → Q (.ref q) H'
theorem ok__law_sides (T : Env K mg) : FnOk P w K mg base CX0 1 T.a__law_sides T.fd__law_sides ["_law_n"] (sp_sides K) := by
  refine T.F__law_sides.ok sc__law_sides (fun vs H Q E h => ?_) (fun cdv A outer s H vs Q E hr h => ?_)
  · obtain ⟨n, rfl, _⟩ := h
    rfl
  · obtain ⟨n, rfl, h3, h12, q⟩ := h
    refine ⟨_, (pss_one (ps_ret (pe_op op_cat (pe_lc (own := [("_law_k", 1)]) (by rfl) sc__law_sides.nd (pi_range1 (by rfl) T.m_range (pa_cons (pe_op op_sub (pv 0) pe_int) pa_nil)) (blkOk_by (own := [("_law_k", 1)]) (N := ["_law_n", "_law_k"]) (sc := defScope s__law_sides) (by decide +kernel)) (fun _ _ _ _ _ => (pg_name (i := 1) sc__law_sides.nd rfl (.inl rfl))) (fun _ _ _ _ _ => pts_nil) (fun _ _ _ _ _ => (pe_tup (pa_cons (pv 1) (pa_cons (pe_op op_add (pv 1) pe_int) pa_nil))))) (pe_lst (pa_cons (pe_tup (pa_cons pe_int (pa_cons (pe_op op_sub (pv 0) pe_int) pa_nil))) pa_nil))))), ?_⟩
    refine ⟨_, rfl, _, _, rfl, rfl, n - 1, rfl, by omega, by omega, fun D hD => ?_⟩
    refine lc_range (lo := 0) (n := (n - 1).toNat) (fun i H' => ∃ zs, Same H H' ∧ H' D = some (.lst zs) ∧ PrL K H' zs (((rng (n - 1)).map (fun k => (k, k + 1))).take i)) ⟨[], same_new hD, upd_same, by rw [List.take_zero]; exact .nil⟩ ?_ ?_
    · rintro i H' hi ⟨zs, s2, hz, hZ⟩
      refine ⟨rfl, yes_read ?_⟩
      refine ⟨_, rfl, _, rfl, _, _, rfl, rfl, small200 (by show 2 ≤ 200; decide), fun u hu => ?_⟩
      have s3 : Same H' _ := same_new (o := .tup [.int (0 + (i : Int)), .int (0 + (i : Int) + 1)]) hu
      have hu2 : (upd H' u (.tup [.int (0 + (i : Int)), .int (0 + (i : Int) + 1)])) u = some (.tup [.int (0 + (i : Int)), .int (0 + (i : Int) + 1)]) := upd_same
      generalize upd H' u (.tup [.int (0 + (i : Int)), .int (0 + (i : Int) + 1)]) = H3 at *
      have hzl := hZ.length
      rw [List.length_take, List.length_map, rng_len] at hzl
      refine ⟨zs, s3 _ _ hz, small200' (by omega), zs ++ [.ref u], ?_, upd_same, ?_⟩
      · intro b o eb
        rw [upd_ne (ne_of_none eb hD)]
        exact s3 _ _ (s2 _ _ eb)
      · have em : ((rng (n - 1)).map (fun k => (k, k + 1)))[i]? = some ((0 + (i : Int)), (0 + (i : Int) + 1)) := by
          unfold rng
          rw [List.getElem?_map, List.getElem?_map, List.getElem?_range hi, Int.zero_add]; rfl
        rw [take_more em]
        have ts := TupS.put (o := .lst (zs ++ [.ref u])) (s3 _ _ hz)
        exact (hZ.tups ((TupS.of s3).trans ts)).app (.one ⟨u, rfl, ts _ _ hu2⟩)
    · rintro H' ⟨zs, s2, hz, hZ⟩
      rw [List.take_of_length_le (by rw [List.length_map, rng_len]; exact Nat.le_refl _)] at hZ
      have hzl := hZ.length
      rw [List.length_map, rng_len] at hzl
      refine ⟨_, rfl, _, _, rfl, rfl, small200 (by show 2 ≤ 200; decide), fun u hu => ?_⟩
      have s3 : Same H' _ := same_new (o := .tup [.int 0, .int (n - 1)]) hu
      have hu2 : (upd H' u (.tup [.int 0, .int (n - 1)])) u = some (.tup [.int 0, .int (n - 1)]) := upd_same
      generalize upd H' u (.tup [.int 0, .int (n - 1)]) = H3 at *
      refine ⟨small200 (by show 1 ≤ 200; decide), fun v hv => ?_⟩
      have s4 : Same H3 _ := same_new (o := .lst [.ref u]) hv
      have hv2 : (upd H3 v (.lst [.ref u])) v = some (.lst [.ref u]) := upd_same
      generalize upd H3 v (.lst [.ref u]) = H4 at *
      refine ⟨D, v, zs, [.ref u], rfl, rfl, s4 _ _ (s3 _ _ hz), hv2, small200 (by show zs.length + 1 ≤ 200; omega), fun r hr2 => ?_⟩
      have s5 : Same H4 _ := same_new (o := .lst (zs ++ [.ref u])) hr2
      have s6 := (s3.trans s4).trans s5
      exact q _ r _ (s2.trans s6) (none_back ((s2.trans s3).trans s4) hr2) upd_same ((hZ.mono s6).app (.one ⟨u, rfl, s5 _ _ (s4 _ _ hu2)⟩))
theorem sidesL_len {n : Int} (h : 3 ≤ n) : (sidesL n).length = n.toNat := by
  unfold sidesL
  rw [List.length_append, List.length_map, rng_len, List.length_singleton]
  omega
def sp_ties (K : PySem.W.Frag) : Sp := fun vs H Q _ => ∃ (n : Int) (c : Addr) (xs : List V) (l : List (Int × Int)), vs = [.int n, .ref c] ∧ 3 ≤ n ∧ n ≤ 12 ∧ H c = some (.lst xs) ∧ PrL K H xs l ∧ l.length ≤ 100 ∧
  ∀ H' q ys, Same H H' → H q = none → H' q = some (.lst ys) → PrL K H' ys (sort2 (sidesL n ++ l)) → Q (.ref q) H'
theorem ok__law_ties (T : Env K mg) : FnOk P w K mg base CX0 2 T.a__law_ties T.fd__law_ties ["_law_n", "_law_cut"] (sp_ties K) := by
  refine T.F__law_ties.ok sc__law_ties (fun vs H Q E h => ?_) (fun cdv A outer s H vs Q E hr h => ?_)
  · obtain ⟨n, c, xs, l, rfl, _⟩ := h
    rfl
  · obtain ⟨n, c, xs, l, rfl, h3, h12, hc, hL, hl, q⟩ := h
    refine ⟨_, (pss_one (ps_ret (pe_callB cr_sort2 (by rfl) T.m_sorted (by decide +kernel) (pa_cons (pe_op op_cat (pe_call (ok__law_sides T) (hr.mono (by decide)) (by rfl) T.g__law_sides T.F__law_sides.kp T.b__law_sides .nil pass0 (pa_cons (pv 0) pa_nil)) (pv 1)) pa_nil)))), ?_⟩
    refine ⟨_, rfl, n, rfl, h3, h12, fun H1 d ys s1 hd hd1 hD => ?_⟩
    have hxl := hL.length
    have hyl := hD.length
    rw [sidesL_len h3] at hyl
    refine ⟨_, rfl, d, c, ys, xs, rfl, rfl, hd1, s1 _ _ hc, small200 (by omega), fun e he => ?_⟩
    have s2 : Same H1 _ := same_new (o := .lst (ys ++ xs)) he
    refine ⟨e, _, _, rfl, .inl (.inl upd_same), (hD.mono s2).app (hL.mono (s1.trans s2)), fun zs u hZ hu => ?_⟩
    have s3 := (s1.trans s2).trans (same_new (o := .lst zs) hu)
    exact q _ u zs s3 (none_back (s1.trans s2) hu) upd_same (hZ.mono (same_new hu))

theorem ok_sides (T : Env K mg) : FnOk P w K mg base CX0 1 T.a_sides T.fd_sides ["n"] (sp_sides K) := by
  refine T.F_sides.ok sc_sides (fun vs H Q E h => ?_) (fun cdv A outer s H vs Q E hr h => ?_)
  · obtain ⟨n, rfl, _⟩ := h
    rfl
  · obtain ⟨n, rfl, h3, h12, q⟩ := h
    refine ⟨_, (pss_one (ps_ret (pe_op op_cat (pe_lc (own := [("post", 1)]) (by rfl) sc_sides.nd (pi_range1 (by rfl) T.m_range (pa_cons (pe_op op_sub (pv 0) pe_int) pa_nil)) (blkOk_by (own := [("post", 1)]) (N := ["n", "post"]) (sc := defScope s_sides) (by decide +kernel)) (fun _ _ _ _ _ => (pg_name (i := 1) sc_sides.nd rfl (.inl rfl))) (fun _ _ _ _ _ => pts_nil) (fun _ _ _ _ _ => (pe_tup (pa_cons (pv 1) (pa_cons (pe_op op_add (pv 1) pe_int) pa_nil))))) (pe_lst (pa_cons (pe_tup (pa_cons pe_int (pa_cons (pe_op op_sub (pv 0) pe_int) pa_nil))) pa_nil))))), ?_⟩
    refine ⟨_, rfl, _, _, rfl, rfl, n - 1, rfl, by omega, by omega, fun D hD => ?_⟩
    refine lc_range (lo := 0) (n := (n - 1).toNat) (fun i H' => ∃ zs, Same H H' ∧ H' D = some (.lst zs) ∧ PrL K H' zs (((rng (n - 1)).map (fun k => (k, k + 1))).take i)) ⟨[], same_new hD, upd_same, by rw [List.take_zero]; exact .nil⟩ ?_ ?_
    · rintro i H' hi ⟨zs, s2, hz, hZ⟩
      refine ⟨rfl, yes_read ?_⟩
      refine ⟨_, rfl, _, rfl, _, _, rfl, rfl, small200 (by show 2 ≤ 200; decide), fun u hu => ?_⟩
      have s3 : Same H' _ := same_new (o := .tup [.int (0 + (i : Int)), .int (0 + (i : Int) + 1)]) hu
      have hu2 : (upd H' u (.tup [.int (0 + (i : Int)), .int (0 + (i : Int) + 1)])) u = some (.tup [.int (0 + (i : Int)), .int (0 + (i : Int) + 1)]) := upd_same
      generalize upd H' u (.tup [.int (0 + (i : Int)), .int (0 + (i : Int) + 1)]) = H3 at *
      have hzl := hZ.length
      rw [List.length_take, List.length_map, rng_len] at hzl
      refine ⟨zs, s3 _ _ hz, small200' (by omega), zs ++ [.ref u], ?_, upd_same, ?_⟩
      · intro b o eb
        rw [upd_ne (ne_of_none eb hD)]
        exact s3 _ _ (s2 _ _ eb)
      · have em : ((rng (n - 1)).map (fun k => (k, k + 1)))[i]? = some ((0 + (i : Int)), (0 + (i : Int) + 1)) := by
          unfold rng
          rw [List.getElem?_map, List.getElem?_map, List.getElem?_range hi, Int.zero_add]; rfl
        rw [take_more em]
        have ts := TupS.put (o := .lst (zs ++ [.ref u])) (s3 _ _ hz)
        exact (hZ.tups ((TupS.of s3).trans ts)).app (.one ⟨u, rfl, ts _ _ hu2⟩)
    · rintro H' ⟨zs, s2, hz, hZ⟩
      rw [List.take_of_length_le (by rw [List.length_map, rng_len]; exact Nat.le_refl _)] at hZ
      have hzl := hZ.length
      rw [List.length_map, rng_len] at hzl
      refine ⟨_, rfl, _, _, rfl, rfl, small200 (by show 2 ≤ 200; decide), fun u hu => ?_⟩
      have s3 : Same H' _ := same_new (o := .tup [.int 0, .int (n - 1)]) hu
      have hu2 : (upd H' u (.tup [.int 0, .int (n - 1)])) u = some (.tup [.int 0, .int (n - 1)]) := upd_same
      generalize upd H' u (.tup [.int 0, .int (n - 1)]) = H3 at *
      refine ⟨small200 (by show 1 ≤ 200; decide), fun v hv => ?_⟩
      have s4 : Same H3 _ := same_new (o := .lst [.ref u]) hv
      have hv2 : (upd H3 v (.lst [.ref u])) v = some (.lst [.ref u]) := upd_same
      generalize upd H3 v (.lst [.ref u]) = H4 at *
      refine ⟨D, v, zs, [.ref u], rfl, rfl, s4 _ _ (s3 _ _ hz), hv2, small200 (by show zs.length + 1 ≤ 200; omega), fun r hr2 => ?_⟩
      have s5 : Same H4 _ := same_new (o := .lst (zs ++ [.ref u])) hr2
      have s6 := (s3.trans s4).trans s5
      exact q _ r _ (s2.trans s6) (none_back ((s2.trans s3).trans s4) hr2) upd_same ((hZ.mono s6).app (.one ⟨u, rfl, s5 _ _ (s4 _ _ hu2)⟩))
theorem ok_ties (T : Env K mg) : FnOk P w K mg base CX0 2 T.a_ties T.fd_ties ["n", "cut"] (sp_ties K) := by
  refine T.F_ties.ok sc_ties (fun vs H Q E h => ?_) (fun cdv A outer s H vs Q E hr h => ?_)
  · obtain ⟨n, c, xs, l, rfl, _⟩ := h
    rfl
  · obtain ⟨n, c, xs, l, rfl, h3, h12, hc, hL, hl, q⟩ := h
    refine ⟨_, (pss_one (ps_ret (pe_callB cr_sort2 (by rfl) T.m_sorted (by decide +kernel) (pa_cons (pe_op op_cat (pe_call (ok_sides T) (hr.mono (by decide)) (by rfl) T.g_sides T.F_sides.kp T.b_sides .nil pass0 (pa_cons (pv 0) pa_nil)) (pv 1)) pa_nil)))), ?_⟩
    refine ⟨_, rfl, n, rfl, h3, h12, fun H1 d ys s1 hd hd1 hD => ?_⟩
    have hxl := hL.length
    have hyl := hD.length
    rw [sidesL_len h3] at hyl
    refine ⟨_, rfl, d, c, ys, xs, rfl, rfl, hd1, s1 _ _ hc, small200 (by omega), fun e he => ?_⟩
    have s2 : Same H1 _ := same_new (o := .lst (ys ++ xs)) he
    refine ⟨e, _, _, rfl, .inl (.inl upd_same), (hD.mono s2).app (hL.mono (s1.trans s2)), fun zs u hZ hu => ?_⟩
    have s3 := (s1.trans s2).trans (same_new (o := .lst zs) hu)
    exact q _ u zs s3 (none_back (s1.trans s2) hu) upd_same (hZ.mono (same_new hu))

theorem ok_pair_of (T : Env K mg) : FnOk P w K mg base CX0 1 T.a_pair_of T.fd_pair_of ["a", "b"] sp_pair := by
  refine T.F_pair_of.ok sc_pair_of (fun vs H Q E h => ?_) (fun cdv A outer s H vs Q E hr h => ?_)
  · obtain ⟨a, b, rfl, _⟩ := h
    rfl
  · obtain ⟨a, b, rfl, q⟩ := h
    refine ⟨_, (pss_one (ps_ret (pe_tup (pa_cons (pe_callB (call_min2 rfl) (by rfl) T.m_min (by decide +kernel) (pa_cons (pv 0) (pa_cons (pv 1) pa_nil))) (pa_cons (pe_callB (call_max2 rfl) (by rfl) T.m_max (by decide +kernel) (pa_cons (pv 0) (pa_cons (pv 1) pa_nil))) pa_nil))))), ?_⟩
    refine ⟨_, rfl, _, rfl, _, _, rfl, _, rfl, _, rfl, _, _, rfl, small200 (by show 2 ≤ 200; decide), fun t ht => ?_⟩
    have := q t ht
    rw [pmin, pmax]
    exact this
abbrev tiesS (n : Int) (l : List (Int × Int)) : List (Int × Int) := sort2 (sidesL n ++ l)
theorem tiesS_len {n : Int} {l : List (Int × Int)} (h3 : 3 ≤ n) (h12 : n ≤ 12) (hl : l.length ≤ 100) : (tiesS n l).length ≤ 200 := by
  unfold tiesS
  rw [sort2_len, List.length_append, sidesL_len h3]
  omega
def sp_beside (K : PySem.W.Frag) (C : Addr) : Sp := fun vs H Q E => ∃ (n : Int) (c : Addr) (xs : List V) (l : List (Int × Int)) (a b : Int), vs = [.int n, .ref c, .int a, .int b] ∧ 3 ≤ n ∧ n ≤ 12 ∧ H c = some (.lst xs) ∧ PrL K H xs l ∧ l.length ≤ 100 ∧
  (pr a b ∉ tiesS n l → ∀ H', Same H H' → E (.ref C) none H') ∧
  (pr a b ∈ tiesS n l → ∀ H' q, Same H H' → H q = none → H' q = some (.lst ((besL (tiesS n l) n a b).map V.int)) → Q (.ref q) H')
theorem filter_more {α : Type} {P : α → Bool} {l : List α} {x : α} : (l ++ [x]).filter P = l.filter P ++ (if P x then [x] else []) := by
  rw [List.filter_append]
  congr 1
  cases h : P x <;> simp [List.filter_cons, h]
theorem ok_beside (T : Env K mg) : FnOk P w K mg base (L2.CX P w) 3 T.a_beside T.fd_beside ["n", "cut", "a", "b"] (sp_beside K T.C_NoRope) := by
  refine T.F_beside.okX sc_beside (fun vs H Q E h => ?_) (fun cdv A outer s H vs Q E hr h => ?_)
  · obtain ⟨n, c, xs, l, a, b, rfl, _⟩ := h
    rfl
  · obtain ⟨n, c, xs, l, a, b, rfl, h3, h12, hc, hL, hl, k0, k1⟩ := h
    refine ⟨_, (pss_cons (ps_set (i := 4) sc_beside.nd rfl (.inr rfl) (pe_call (ok_ties T) (hr.mono (by decide)) (by rfl) T.g_ties T.F_ties.kp T.b_ties .nil pass0 (pa_cons (pv 0) (pa_cons (pv 1) pa_nil))))
 (pss_cons (ps_if (pt_cmpR (op_notIn2 (by have h_ := Room.units2 hr; exact h_)) (pe_call (ok_pair_of T) (hr.mono (by decide)) (by rfl) T.g_pair_of T.F_pair_of.kp T.b_pair_of .nil pass0 (pa_cons (pv 2) (pa_cons (pv 3) pa_nil))) (pv 4) (by rfl))
 (pss_one (ps_raise rfl (takes_of rfl rfl rfl rfl) (pmk_own PySem.F.excBase_ValueError T.x_NoRope T.c_NoRope T.k_NoRope (raises_own T.bs_NoRope T.ty_NoRope) rfl)))
 pss_nil)
 (pss_one (ps_ret (pe_lc (own := [("post", 5)]) (by rfl) sc_beside.nd (pi_range1 (by rfl) T.m_range (pa_cons (pv 0) pa_nil)) (blkOk_by (own := [("post", 5)]) (N := ["n", "cut", "a", "b", "tied", "post"]) (sc := defScope s_beside) (by decide +kernel)) (fun _ _ _ _ _ => (pg_name (i := 5) sc_beside.nd rfl (.inl rfl))) (fun _ _ _ _ _ => (pts_one (PW.pt (pw_and (pt_cmpR (r := rIn2 K false) (op_in2 (by have h_ := Room.units2 hr; exact h_)) (pe_call (ok_pair_of T) (hr.mono (by decide)) (by rfl) T.g_pair_of T.F_pair_of.kp T.b_pair_of .nil pass0 (pa_cons (pv 2) (pa_cons (pv 5) pa_nil))) (pv 4) (by rfl)) (pw_and1 (pt_cmpR (r := rIn2 K false) (op_in2 (by have h_ := Room.units2 hr; exact h_)) (pe_call (ok_pair_of T) (hr.mono (by decide)) (by rfl) T.g_pair_of T.F_pair_of.kp T.b_pair_of .nil pass0 (pa_cons (pv 3) (pa_cons (pv 5) pa_nil))) (pv 4) (by rfl))))))) (fun _ _ _ _ _ => (pv 5))))))), ?_⟩
    have htl := tiesS_len h3 h12 hl
    refine ⟨_, rfl, _, rfl, n, c, xs, l, rfl, h3, h12, hc, hL, hl, fun H1 d ys s1 hd hd1 hY => ?_⟩
    refine ⟨_, rfl, _, rfl, a, b, rfl, fun t ht => ?_⟩
    have s2 : Same H1 _ := same_new (o := .tup [.int (pr a b).1, .int (pr a b).2]) ht
    have ht2 : (upd H1 t (.tup [.int (pr a b).1, .int (pr a b).2])) t = some (.tup [.int (pr a b).1, .int (pr a b).2]) := upd_same
    generalize upd H1 t (.tup [.int (pr a b).1, .int (pr a b).2]) = H2 at *
    refine ⟨_, rfl, pr a b, d, ys, _, ⟨t, rfl, ht2⟩, rfl, .inl (.inl (s2 _ _ hd1)), hY.mono s2, htl, _, rfl, ?_⟩
    refine ite2 (fun hd => ?_) (fun hd => ?_)
    · have hd : (!decide (pr a b ∈ tiesS n l)) = true := hd
      have hn : pr a b ∉ tiesS n l := fun hm => by rw [decide_eq_true hm] at hd; cases hd
      exact k0 hn H2 (s1.trans s2)
    · have hd : ¬ (!decide (pr a b ∈ tiesS n l)) = true := hd
      have hm : pr a b ∈ tiesS n l := Decidable.by_contra fun hn => hd (by rw [decide_eq_false hn]; rfl)
      have hd2 := s2 _ _ hd1
      have hY2 : PrL K H2 ys (tiesS n l) := hY.mono s2
      refine ⟨_, rfl, n, rfl, by omega, by omega, fun D hD => ?_⟩
      have hs12 := s1.trans s2
      refine lc_range (lo := 0) (n := n.toNat) (fun i H' => Same H2 H' ∧ H' D = some (.lst ((((rng n).take i).filter fun p => decide (pr a p ∈ tiesS n l) && decide (pr b p ∈ tiesS n l)).map V.int))) ⟨same_new hD, upd_same⟩ ?_ ?_
      · rintro i H' hi ⟨s3, hz⟩
        have hfl : (((rng n).take i).filter fun p => decide (pr a p ∈ tiesS n l) && decide (pr b p ∈ tiesS n l)).length ≤ i := Nat.le_trans (List.length_filter_le _ _) (by rw [List.length_take]; omega)
        have key : ∀ {H3 : Hp} (c : Bool), (decide (pr a (i : Int) ∈ tiesS n l) && decide (pr b (i : Int) ∈ tiesS n l)) = c → Same H' H3 →
            if c = true then ∃ acc, H3 D = some (.lst acc) ∧ acc.length < sizeLine ∧ (Same H2 (upd H3 D (.lst (acc ++ [.int (0 + (i : Int))]))) ∧ (upd H3 D (.lst (acc ++ [.int (0 + (i : Int))]))) D = some (.lst ((((rng n).take (i + 1)).filter fun p => decide (pr a p ∈ tiesS n l) && decide (pr b p ∈ tiesS n l)).map V.int)))
            else (Same H2 H3 ∧ H3 D = some (.lst ((((rng n).take (i + 1)).filter fun p => decide (pr a p ∈ tiesS n l) && decide (pr b p ∈ tiesS n l)).map V.int))) := by
          intro H3 c hc s4
          rw [rng_more n i hi, filter_more]
          have hz3 := s4 _ _ hz
          cases c with
          | true =>
            rw [if_pos rfl, hc, if_pos rfl]
            refine ⟨_, hz3, small200' (by rw [List.length_map]; omega), ?_, ?_⟩
            · intro b' o eb
              rw [upd_ne (ne_of_none eb hD)]
              exact s4 _ _ (s3 _ _ eb)
            · rw [upd_same, List.map_append, Int.zero_add]; rfl
          | false =>
            rw [if_neg Bool.false_ne_true, hc, if_neg Bool.false_ne_true, List.append_nil]
            exact ⟨s3.trans s4, hz3⟩
        refine ⟨rfl, _, rfl, _, rfl, a, 0 + (i : Int), rfl, fun u hu => ?_⟩
        have s4 : Same H' _ := same_new (o := .tup [.int (pr a (0 + (i : Int))).1, .int (pr a (0 + (i : Int))).2]) hu
        have hu2 : (upd H' u (.tup [.int (pr a (0 + (i : Int))).1, .int (pr a (0 + (i : Int))).2])) u = some (.tup [.int (pr a (0 + (i : Int))).1, .int (pr a (0 + (i : Int))).2]) := upd_same
        generalize upd H' u (.tup [.int (pr a (0 + (i : Int))).1, .int (pr a (0 + (i : Int))).2]) = H4 at *
        rw [Int.zero_add] at hu2
        refine ⟨_, rfl, pr a (i : Int), d, ys, _, ⟨u, rfl, hu2⟩, rfl, .inl (.inl (s4 _ _ (s3 _ _ hd2))), hY2.mono (s3.trans s4), htl, _, rfl, ?_⟩
        refine ite2 (fun hx => ?_) (fun hx => ?_)
        · have hx : decide (pr a (i : Int) ∈ tiesS n l) = true := hx
          refine ⟨_, rfl, _, rfl, b, 0 + (i : Int), rfl, fun u' hu' => ?_⟩
          have s5 : Same H4 _ := same_new (o := .tup [.int (pr b (0 + (i : Int))).1, .int (pr b (0 + (i : Int))).2]) hu'
          have hu3 : (upd H4 u' (.tup [.int (pr b (0 + (i : Int))).1, .int (pr b (0 + (i : Int))).2])) u' = some (.tup [.int (pr b (0 + (i : Int))).1, .int (pr b (0 + (i : Int))).2]) := upd_same
          generalize upd H4 u' (.tup [.int (pr b (0 + (i : Int))).1, .int (pr b (0 + (i : Int))).2]) = H5 at *
          rw [Int.zero_add] at hu3
          have s45 := s4.trans s5
          refine ⟨_, rfl, pr b (i : Int), d, ys, _, ⟨u', rfl, hu3⟩, rfl, .inl (.inl (s45 _ _ (s3 _ _ hd2))), hY2.mono (s3.trans s45), htl, _, rfl, ?_⟩
          have kk := key (H3 := H5) (decide (pr b (i : Int) ∈ tiesS n l)) (by rw [hx, Bool.true_and]) s45
          refine ite2 (fun hy => ?_) (fun hy => ?_)
          · have hy : decide (pr b (i : Int) ∈ tiesS n l) = true := hy
            rw [hy, if_pos rfl] at kk
            exact ⟨_, rfl, kk⟩
          · have hy : ¬ decide (pr b (i : Int) ∈ tiesS n l) = true := hy
            rw [if_neg hy] at kk
            exact kk
        · have hx : ¬ decide (pr a (i : Int) ∈ tiesS n l) = true := hx
          have kk := key (H3 := H4) false (by rw [Bool.eq_false_iff.mpr hx, Bool.false_and]) s4
          rw [if_neg Bool.false_ne_true] at kk
          exact kk
      · rintro H' ⟨s3, hz⟩
        rw [List.take_of_length_le (by rw [rng_len]; exact Nat.le_refl _)] at hz
        exact k1 hm H' D (hs12.trans s3) (none_back hs12 hD) hz

def sp_lbeside (K : PySem.W.Frag) : Sp := fun vs H Q _ => ∃ (n : Int) (c : Addr) (xs : List V) (t : List (Int × Int)) (a b : Int), vs = [.int n, .ref c, .int a, .int b] ∧ 3 ≤ n ∧ n ≤ 12 ∧ H c = some (.lst xs) ∧ PrL K H xs t ∧ t.length ≤ 200 ∧
  ∀ H' q, Same H H' → H q = none → H' q = some (.lst ((besL t n a b).map V.int)) → Q (.ref q) H'
theorem ok__law_beside (T : Env K mg) : FnOk P w K mg base CX0 2 T.a__law_beside T.fd__law_beside ["_law_n", "_law_all_ties", "_law_a", "_law_b"] (sp_lbeside K) := by
  refine T.F__law_beside.ok sc__law_beside (fun vs H Q E h => ?_) (fun cdv A outer s H vs Q E hr h => ?_)
  · obtain ⟨n, c, xs, t, a, b, rfl, _⟩ := h
    rfl
  · obtain ⟨n, c, xs, t, a, b, rfl, h3, h12, hc, hL, hl, k1⟩ := h
    refine ⟨_, (pss_cons (ps_set (i := 4) sc__law_beside.nd rfl (.inl rfl) (pe_lst pa_nil))
 (pss_cons (ps_for PassesOwn.never rfl (pi_range1 (by rfl) T.m_range (pa_cons (pv 0) pa_nil)) (pg_name (i := 5) sc__law_beside.nd rfl (.inl rfl))
 (pss_one (ps_if (PW.pt (pw_and (pt_cmpR (op_in2 (by have h_ := Room.units2 hr; exact h_)) (pe_call (ok__law_pair T) (hr.mono (by decide)) (by rfl) T.g__law_pair T.F__law_pair.kp T.b__law_pair .nil pass0 (pa_cons (pv 2) (pa_cons (pv 5) pa_nil))) (pv 1) (by rfl)) (pw_and1 (pt_cmpR (op_in2 (by have h_ := Room.units2 hr; exact h_)) (pe_call (ok__law_pair T) (hr.mono (by decide)) (by rfl) T.g__law_pair T.F__law_pair.kp T.b__law_pair .nil pass0 (pa_cons (pv 3) (pa_cons (pv 5) pa_nil))) (pv 1) (by rfl)))))
 (pss_one (ps_expr (pe_bm PySem.F.plainAttrs_list PySem.F.slot_list_append PySem.F.type_list_append mt_append (pv 4) (pa_cons (pv 5) pa_nil))))
 pss_nil)))
 (pss_one (ps_ret (pv 4))))), ?_⟩
    refine ⟨Nat.zero_le _, fun D hD => ?_⟩
    have s1 : Same H _ := same_new (o := .lst []) hD
    refine ⟨_, rfl, n, rfl, by omega, by omega, for_range (lo := 0) (n := n.toNat) (fun i σ H' => ∃ z, σ = [some (.int n), some (.ref c), some (.int a), some (.int b), some (.ref D), z] ∧ Same H H' ∧ H' D = some (.lst ((((rng n).take i).filter fun p => decide (pr a p ∈ t) && decide (pr b p ∈ t)).map V.int))) ⟨_, rfl, s1, upd_same⟩ ?_ ?_⟩
    · rintro i σ H' hi ⟨z, rfl, s3, hz⟩
      have hfl : (((rng n).take i).filter fun p => decide (pr a p ∈ t) && decide (pr b p ∈ t)).length ≤ i := Nat.le_trans (List.length_filter_le _ _) (by rw [List.length_take]; omega)
      have yes : ∀ {H3 : Hp}, (decide (pr a (i : Int) ∈ t) && decide (pr b (i : Int) ∈ t)) = true → Same H' H3 →
          (Same H (upd H3 D (.lst ((((rng n).take i).filter fun p => decide (pr a p ∈ t) && decide (pr b p ∈ t)).map V.int ++ [.int (0 + (i : Int))]))) ∧ (upd H3 D (.lst ((((rng n).take i).filter fun p => decide (pr a p ∈ t) && decide (pr b p ∈ t)).map V.int ++ [.int (0 + (i : Int))]))) D = some (.lst ((((rng n).take (i + 1)).filter fun p => decide (pr a p ∈ t) && decide (pr b p ∈ t)).map V.int))) := by
        intro H3 hc s4
        rw [rng_more n i hi, filter_more, hc, if_pos rfl]
        refine ⟨?_, ?_⟩
        · intro b' o eb
          rw [upd_ne (ne_of_none eb hD)]
          exact s4 _ _ (s3 _ _ eb)
        · rw [upd_same, List.map_append, Int.zero_add]; rfl
      have no : ∀ {H3 : Hp}, (decide (pr a (i : Int) ∈ t) && decide (pr b (i : Int) ∈ t)) = false → Same H' H3 →
          (Same H H3 ∧ H3 D = some (.lst ((((rng n).take (i + 1)).filter fun p => decide (pr a p ∈ t) && decide (pr b p ∈ t)).map V.int))) := by
        intro H3 hc s4
        rw [rng_more n i hi, filter_more, hc, if_neg Bool.false_ne_true, List.append_nil]
        exact ⟨s3.trans s4, s4 _ _ hz⟩
      refine ⟨_, rfl, _, rfl, a, 0 + (i : Int), rfl, fun u hu => ?_⟩
      have s4 : Same H' _ := same_new (o := .tup [.int (pr a (0 + (i : Int))).1, .int (pr a (0 + (i : Int))).2]) hu
      have hu2 : (upd H' u (.tup [.int (pr a (0 + (i : Int))).1, .int (pr a (0 + (i : Int))).2])) u = some (.tup [.int (pr a (0 + (i : Int))).1, .int (pr a (0 + (i : Int))).2]) := upd_same
      generalize upd H' u (.tup [.int (pr a (0 + (i : Int))).1, .int (pr a (0 + (i : Int))).2]) = H4 at *
      rw [Int.zero_add] at hu2
      refine ⟨_, rfl, pr a (i : Int), c, xs, _, ⟨u, rfl, hu2⟩, rfl, .inl (.inl (s4 _ _ (s3 _ _ hc))), hL.mono (s3.trans s4), hl, _, rfl, ?_⟩
      refine ite2 (fun hx => ?_) (fun hx => ?_)
      · have hx : decide (pr a (i : Int) ∈ t) = true := hx
        refine ⟨_, rfl, _, rfl, b, 0 + (i : Int), rfl, fun u' hu' => ?_⟩
        have s5 : Same H4 _ := same_new (o := .tup [.int (pr b (0 + (i : Int))).1, .int (pr b (0 + (i : Int))).2]) hu'
        have hu3 : (upd H4 u' (.tup [.int (pr b (0 + (i : Int))).1, .int (pr b (0 + (i : Int))).2])) u' = some (.tup [.int (pr b (0 + (i : Int))).1, .int (pr b (0 + (i : Int))).2]) := upd_same
        generalize upd H4 u' (.tup [.int (pr b (0 + (i : Int))).1, .int (pr b (0 + (i : Int))).2]) = H5 at *
        rw [Int.zero_add] at hu3
        have s45 := s4.trans s5
        refine ⟨_, rfl, pr b (i : Int), c, xs, _, ⟨u', rfl, hu3⟩, rfl, .inl (.inl (s45 _ _ (s3 _ _ hc))), hL.mono (s3.trans s45), hl, _, rfl, ?_⟩
        refine ite2 (fun hy => ?_) (fun hy => ?_)
        · have hy : decide (pr b (i : Int) ∈ t) = true := hy
          have hDH5 := s45 _ _ hz
          refine ⟨_, rfl, .inl ⟨rfl, _, .inl (.inl hDH5)⟩, _, rfl, D, _, _, rfl, rfl, hDH5, small200' (by rw [List.length_map]; omega), ?_⟩
          exact ⟨_, rfl, yes (by rw [hx, hy]; rfl) s45⟩
        · have hy : ¬ decide (pr b (i : Int) ∈ t) = true := hy
          exact ⟨_, rfl, no (by rw [hx, Bool.eq_false_iff.mpr hy]; rfl) s45⟩
      · have hx : ¬ decide (pr a (i : Int) ∈ t) = true := hx
        exact ⟨_, rfl, no (by rw [Bool.eq_false_iff.mpr hx, Bool.false_and]) s4⟩
    · rintro σ H' ⟨z, rfl, s3, hz⟩
      rw [List.take_of_length_le (by rw [rng_len]; exact Nat.le_refl _)] at hz
      exact ⟨_, rfl, k1 H' D s3 hD hz⟩

/-! ### lowest -/
def sp_lowest (C : Addr) : Sp := fun vs H Q E => ∃ t b : Int, vs = [.int t, .int b] ∧ b.natAbs.log2 < 9000 ∧ (b = 0 → E (.ref C) none H) ∧
  (b ≠ 0 → ∀ p, H p = none → Q (.ref p) (upd H p (.tup [.int (lowI t b).1, .int (lowI t b).2])))
theorem ok_lowest (T : Env K mg) : FnOk P w K mg base (L2.CX P w) 1 T.a_lowest T.fd_lowest ["top", "bottom"] (sp_lowest T.C_NoFraction) := by
  refine T.F_lowest.okX sc_lowest (fun vs H Q E h => ?_) (fun cdv A outer s H vs Q E hr h => ?_)
  · obtain ⟨t, b, rfl, _⟩ := h
    rfl
  · obtain ⟨t, b, rfl, hlog, k0, k1⟩ := h
    refine ⟨_, (pss_cons (ps_if (pt_cmpR op_eq (pv 1) pe_int (nomark _))
 (pss_one (ps_raise rfl (takes_of rfl rfl rfl rfl) (pmk_own PySem.F.excBase_ValueError T.x_NoFraction T.c_NoFraction T.k_NoFraction (raises_own T.bs_NoFraction T.ty_NoFraction) rfl)))
 pss_nil)
 (pss_cons (ps_set (i := 2) sc_lowest.nd rfl (.inl rfl) (pe_callBfun cr_gcd (by rfl) T.m_gcd (pa_cons (pv 0) (pa_cons (pv 1) pa_nil))))
 (C8.pss_cut (ps_if (pt_cmpR op_lt (pv 1) pe_int (nomark _))
 (pss_one (ps_set (i := 2) sc_lowest.nd rfl (.inl rfl) (pe_un un_neg (pv 2))))
 pss_nil)
 (pss_one (ps_ret (pe_tup (pa_cons (pe_op op_fdivX (pv 0) (pv 2)) (pa_cons (pe_op op_fdivX (pv 1) (pv 2)) pa_nil)))))))), ?_⟩
    refine ⟨_, rfl, rfl, _, rfl, ite2 (fun hd => ?_) (fun hd => ?_)⟩
    · exact k0 (V.int.inj (of_decide_eq_true hd))
    · have hb : b ≠ 0 := fun z => hd (by rw [z]; rfl)
      have q := k1 hb
      have hgp : 0 < Nat.gcd t.natAbs b.natAbs := Nat.gcd_pos_of_pos_right _ (by omega)
      have hgl := gcd_log (t := t) hb hlog
      refine ⟨_, rfl, _, rfl, _, _, rfl, ?_⟩
      generalize hG : Nat.gcd t.natAbs b.natAbs = g at *
      refine ⟨fun σ' H2 => H = H2 ∧ ((b < 0 ∧ σ' = [some (.int t), some (.int b), some (.int (-(g : Int)))]) ∨ (¬ b < 0 ∧ σ' = [some (.int t), some (.int b), some (.int (g : Int))])), ?_, ?_⟩
      · refine ⟨_, rfl, _, _, rfl, rfl, _, rfl, ite2 (fun hd => ?_) (fun hd => ?_)⟩
        · exact ⟨_, rfl, _, rfl, rfl, .inl ⟨of_decide_eq_true hd, rfl⟩⟩
        · exact ⟨rfl, .inr ⟨nd hd, rfl⟩⟩
      · rintro σ' H2 ⟨rfl, ⟨hn, rfl⟩ | ⟨hn, rfl⟩⟩
        · have hgn : (-(g : Int)).natAbs.log2 < 9000 := by rw [Int.natAbs_neg]; exact hgl
          refine ⟨_, rfl, _, rfl, _, _, rfl, rfl, ⟨by omega, hgn⟩, _, rfl, _, rfl, _, _, rfl, rfl, ⟨by omega, hgn⟩, (by show 2 ≤ sizeLine; decide), fun p hp => ?_⟩
          have := q p hp
          unfold lowI at this
          rw [if_pos hn, hG] at this
          show Q (.ref p) (upd H p (.tup [.int (t.fdiv (-(g : Int))), .int (b.fdiv (-(g : Int)))]))
          rw [fdiv_lowN (by omega), fdiv_lowN (by omega)]
          exact this
        · refine ⟨_, rfl, _, rfl, _, _, rfl, rfl, ⟨by omega, hgl⟩, _, rfl, _, rfl, _, _, rfl, rfl, ⟨by omega, hgl⟩, (by show 2 ≤ sizeLine; decide), fun p hp => ?_⟩
          have := q p hp
          unfold lowI at this
          rw [if_neg hn, hG] at this
          show Q (.ref p) (upd H p (.tup [.int (t.fdiv (g : Int)), .int (b.fdiv (g : Int))]))
          rw [fdiv_lowP (by omega), fdiv_lowP (by omega)]
          exact this

/-! ### parts: plus, less, times, over, smaller -/
theorem lt_mul {i j : Int} {a b n : Nat} (ha : i.natAbs < 2 ^ a) (hb : j.natAbs < 2 ^ b) (h : a + b ≤ n) : (i * j).natAbs < 2 ^ n :=
  Nat.lt_of_lt_of_le (wide_lt ha hb) (Nat.pow_le_pow_right (by decide) h)
theorem lt_add {i j : Int} {a n : Nat} (ha : i.natAbs < 2 ^ a) (hb : j.natAbs < 2 ^ a) (h : a + 1 ≤ n) : (i + j).natAbs < 2 ^ n := by
  have h1 : (i + j).natAbs < 2 ^ (a + 1) := by
    have := Int.natAbs_add_le i j
    rw [Nat.pow_succ]
    omega
  exact Nat.lt_of_lt_of_le h1 (Nat.pow_le_pow_right (by decide) h)
theorem lt_sub {i j : Int} {a n : Nat} (ha : i.natAbs < 2 ^ a) (hb : j.natAbs < 2 ^ a) (h : a + 1 ≤ n) : (i - j).natAbs < 2 ^ n := by
  rw [Int.sub_eq_add_neg]
  exact lt_add ha (by rw [Int.natAbs_neg]; exact hb) h
theorem mulW {i j : Int} {a b : Nat} (ha : i.natAbs < 2 ^ a) (hb : j.natAbs < 2 ^ b) (h0 : 0 < a) (h1 : 0 < b) (h : a + b ≤ 1000000) : IntMulOk i j := (wide_mul ha hb h0 h1 h).ok

/-! ### fractions above nought, told by their values -/
structure Frac (b : Nat) (x : Int × Int) : Prop where
  top : 0 < x.1
  low : Low x.1 x.2
  bt : x.1.natAbs < 2 ^ b
  bb : x.2.natAbs < 2 ^ b
theorem Frac.more {a b : Nat} {x : Int × Int} (h : Frac a x) (l : a ≤ b) : Frac b x :=
  ⟨h.top, h.low, Nat.lt_of_lt_of_le h.bt (Nat.pow_le_pow_right (by decide) l), Nat.lt_of_lt_of_le h.bb (Nat.pow_le_pow_right (by decide) l)⟩
theorem lowV {t b : Int} {k : Nat} (ht : 0 < t) (hb : 0 < b) (h1 : t.natAbs < 2 ^ k) (h2 : b.natAbs < 2 ^ k) : Frac k (lowI t b) := by
  obtain ⟨L, e, e1, e2⟩ := lowI_ok (t := t) (b := b) (by omega)
  refine ⟨?_, L, by omega, by omega⟩
  have h3 : 0 < (lowI t b).1 * b := by rw [e]; exact Int.mul_pos L.pos ht
  exact Int.pos_of_mul_pos_left h3 hb
def mulV (x y : Int × Int) : Int × Int := lowI (x.1 * y.1) (x.2 * y.2)
def divV (x y : Int × Int) : Int × Int := lowI (x.1 * y.2) (x.2 * y.1)
def addV (x y : Int × Int) : Int × Int := lowI (x.1 * y.2 + y.1 * x.2) (x.2 * y.2)
theorem mulV_frac {a b : Nat} {x y : Int × Int} (h : Frac a x) (k : Frac b y) : Frac (a + b) (mulV x y) :=
  lowV (Int.mul_pos h.top k.top) (Int.mul_pos h.low.pos k.low.pos) (lt_mul h.bt k.bt (Nat.le_refl _)) (lt_mul h.bb k.bb (Nat.le_refl _))
theorem divV_frac {a b : Nat} {x y : Int × Int} (h : Frac a x) (k : Frac b y) : Frac (a + b) (divV x y) :=
  lowV (Int.mul_pos h.top k.low.pos) (Int.mul_pos h.low.pos k.top) (lt_mul h.bt k.bb (Nat.le_refl _)) (lt_mul h.bb k.bt (Nat.le_refl _))
theorem addV_frac {a b : Nat} {x y : Int × Int} (h : Frac a x) (k : Frac b y) : Frac (a + b + 1) (addV x y) := by
  have h1 := Int.mul_pos h.top k.low.pos
  have h2 := Int.mul_pos k.top h.low.pos
  refine lowV (by omega) (Int.mul_pos h.low.pos k.low.pos) (lt_add (a := a + b) (lt_mul h.bt k.bb (Nat.le_refl _)) ?_ (Nat.le_refl _)) (lt_mul h.bb k.bb (by omega))
  rw [Int.mul_comm]
  exact lt_mul h.bb k.bt (Nat.le_refl _)
theorem mulV_comm (x y : Int × Int) : mulV x y = mulV y x := by
  unfold mulV
  rw [Int.mul_comm x.1, Int.mul_comm x.2]
theorem addV_comm (x y : Int × Int) : addV x y = addV y x := by
  unfold addV
  rw [Int.add_comm, Int.mul_comm x.2]
theorem Frac.log {b : Nat} {x : Int × Int} (h : Frac b x) (l : b ≤ 4000) : x.2.natAbs.log2 < 9000 :=
  log_small (b := 4000) (by decide) (Nat.lt_of_lt_of_le h.bb (Nat.pow_le_pow_right (by decide) l)) (by decide)
/-- two fractions are handed in; F tells what comes of them -/
def sp_bin (K : PySem.W.Frag) (F : Int × Int → Int × Int → Int × Int) : Sp := fun vs H Q _ => ∃ (x y : V) (p q : Int × Int), vs = [x, y] ∧ PrAt K H x p ∧ PrAt K H y q ∧ Frac 4000 p ∧ Frac 4000 q ∧
  ∀ H' v, Same H H' → PrAt K H' v (F p q) → Q v H'
theorem bin_out {H : Hp} {Q : VK} {z : Int × Int} (k : ∀ H' v, Same H H' → PrAt K H' v z → Q v H') : ∀ r, H r = none → Q (.ref r) (upd H r (.tup [.int z.1, .int z.2])) :=
  fun r hr => k _ _ (same_new hr) ⟨r, rfl, upd_same⟩
theorem ok_times (T : Env K mg) : FnOk P w K mg base CX0 2 T.a_times T.fd_times ["one", "other"] (sp_bin K mulV) := by
  refine T.F_times.ok sc_times (fun vs H Q E h => ?_) (fun cdv A outer s H vs Q E hr h => ?_)
  · obtain ⟨x, y, p, q, rfl, _⟩ := h
    rfl
  · obtain ⟨x, y, p, q, rfl, hx, hy, fp, fq, k⟩ := h
    refine ⟨_, (pss_one (ps_ret (pe_call (ok_lowest T) (hr.mono (by decide)) (by rfl) T.g_lowest T.F_lowest.kp T.b_lowest .nil passL (pa_cons (pe_op op_mulU (pe_ix ix_tup (pv 0) pe_int (fun _ _ => rfl)) (pe_ix ix_tup (pv 1) pe_int (fun _ _ => rfl))) (pa_cons (pe_op op_mulU (pe_ix ix_tup (pv 0) pe_int (fun _ _ => rfl)) (pe_ix ix_tup (pv 1) pe_int (fun _ _ => rfl))) pa_nil))))), ?_⟩
    obtain ⟨a, rfl, ha⟩ := hx.sq
    obtain ⟨b, rfl, hb⟩ := hy.sq
    refine ⟨_, rfl, a, _, _, _, rfl, rfl, ha, atI_nat (j := 0) rfl, _, rfl, b, _, _, _, rfl, rfl, hb, atI_nat (j := 0) rfl, _, _, rfl, rfl, mulW fp.bt fq.bt (by decide) (by decide) (by decide), ?_⟩
    refine ⟨_, rfl, a, _, _, _, rfl, rfl, ha, atI_nat (j := 1) rfl, _, rfl, b, _, _, _, rfl, rfl, hb, atI_nat (j := 1) rfl, _, _, rfl, rfl, mulW fp.bb fq.bb (by decide) (by decide) (by decide), ?_⟩
    have hbp := Int.mul_pos fp.low.pos fq.low.pos
    exact ⟨_, _, rfl, log_small (by decide) (lt_mul (n := 8999) fp.bb fq.bb (by decide)) (by decide), fun z => absurd z (by omega), fun _ => bin_out k⟩
theorem ok_over (T : Env K mg) : FnOk P w K mg base CX0 2 T.a_over T.fd_over ["one", "other"] (sp_bin K divV) := by
  refine T.F_over.ok sc_over (fun vs H Q E h => ?_) (fun cdv A outer s H vs Q E hr h => ?_)
  · obtain ⟨x, y, p, q, rfl, _⟩ := h
    rfl
  · obtain ⟨x, y, p, q, rfl, hx, hy, fp, fq, k⟩ := h
    refine ⟨_, (pss_one (ps_ret (pe_call (ok_lowest T) (hr.mono (by decide)) (by rfl) T.g_lowest T.F_lowest.kp T.b_lowest .nil passL (pa_cons (pe_op op_mulU (pe_ix ix_tup (pv 0) pe_int (fun _ _ => rfl)) (pe_ix ix_tup (pv 1) pe_int (fun _ _ => rfl))) (pa_cons (pe_op op_mulU (pe_ix ix_tup (pv 0) pe_int (fun _ _ => rfl)) (pe_ix ix_tup (pv 1) pe_int (fun _ _ => rfl))) pa_nil))))), ?_⟩
    obtain ⟨a, rfl, ha⟩ := hx.sq
    obtain ⟨b, rfl, hb⟩ := hy.sq
    refine ⟨_, rfl, a, _, _, _, rfl, rfl, ha, atI_nat (j := 0) rfl, _, rfl, b, _, _, _, rfl, rfl, hb, atI_nat (j := 1) rfl, _, _, rfl, rfl, mulW fp.bt fq.bb (by decide) (by decide) (by decide), ?_⟩
    refine ⟨_, rfl, a, _, _, _, rfl, rfl, ha, atI_nat (j := 1) rfl, _, rfl, b, _, _, _, rfl, rfl, hb, atI_nat (j := 0) rfl, _, _, rfl, rfl, mulW fp.bb fq.bt (by decide) (by decide) (by decide), ?_⟩
    have hbp := Int.mul_pos fp.low.pos fq.top
    exact ⟨_, _, rfl, log_small (by decide) (lt_mul (n := 8999) fp.bb fq.bt (by decide)) (by decide), fun z => absurd z (by omega), fun _ => bin_out k⟩
theorem ok__law_mul (T : Env K mg) : FnOk P w K mg base CX0 2 T.a__law_mul T.fd__law_mul ["_law_one", "_law_other"] (sp_bin K mulV) := by
  refine T.F__law_mul.ok sc__law_mul (fun vs H Q E h => ?_) (fun cdv A outer s H vs Q E hr h => ?_)
  · obtain ⟨x, y, p, q, rfl, _⟩ := h
    rfl
  · obtain ⟨x, y, p, q, rfl, hx, hy, fp, fq, k⟩ := h
    refine ⟨_, (pss_one (ps_ret (pe_call (ok__law_low T) (hr.mono (by decide)) (by rfl) T.g__law_low T.F__law_low.kp T.b__law_low .nil pass0 (pa_cons (pe_op op_mulU (pe_ix ix_tup (pv 0) pe_int (fun _ _ => rfl)) (pe_ix ix_tup (pv 1) pe_int (fun _ _ => rfl))) (pa_cons (pe_op op_mulU (pe_ix ix_tup (pv 0) pe_int (fun _ _ => rfl)) (pe_ix ix_tup (pv 1) pe_int (fun _ _ => rfl))) pa_nil))))), ?_⟩
    obtain ⟨a, rfl, ha⟩ := hx.sq
    obtain ⟨b, rfl, hb⟩ := hy.sq
    refine ⟨_, rfl, a, _, _, _, rfl, rfl, ha, atI_nat (j := 0) rfl, _, rfl, b, _, _, _, rfl, rfl, hb, atI_nat (j := 0) rfl, _, _, rfl, rfl, mulW fp.bt fq.bt (by decide) (by decide) (by decide), ?_⟩
    refine ⟨_, rfl, a, _, _, _, rfl, rfl, ha, atI_nat (j := 1) rfl, _, rfl, b, _, _, _, rfl, rfl, hb, atI_nat (j := 1) rfl, _, _, rfl, rfl, mulW fp.bb fq.bb (by decide) (by decide) (by decide), ?_⟩
    have hbp := Int.mul_pos fp.low.pos fq.low.pos
    exact ⟨_, _, rfl, by omega, log_small (by decide) (lt_mul (n := 8999) fp.bb fq.bb (by decide)) (by decide), bin_out k⟩
theorem ok__law_div (T : Env K mg) : FnOk P w K mg base CX0 2 T.a__law_div T.fd__law_div ["_law_one", "_law_other"] (sp_bin K divV) := by
  refine T.F__law_div.ok sc__law_div (fun vs H Q E h => ?_) (fun cdv A outer s H vs Q E hr h => ?_)
  · obtain ⟨x, y, p, q, rfl, _⟩ := h
    rfl
  · obtain ⟨x, y, p, q, rfl, hx, hy, fp, fq, k⟩ := h
    refine ⟨_, (pss_one (ps_ret (pe_call (ok__law_low T) (hr.mono (by decide)) (by rfl) T.g__law_low T.F__law_low.kp T.b__law_low .nil pass0 (pa_cons (pe_op op_mulU (pe_ix ix_tup (pv 0) pe_int (fun _ _ => rfl)) (pe_ix ix_tup (pv 1) pe_int (fun _ _ => rfl))) (pa_cons (pe_op op_mulU (pe_ix ix_tup (pv 0) pe_int (fun _ _ => rfl)) (pe_ix ix_tup (pv 1) pe_int (fun _ _ => rfl))) pa_nil))))), ?_⟩
    obtain ⟨a, rfl, ha⟩ := hx.sq
    obtain ⟨b, rfl, hb⟩ := hy.sq
    refine ⟨_, rfl, a, _, _, _, rfl, rfl, ha, atI_nat (j := 0) rfl, _, rfl, b, _, _, _, rfl, rfl, hb, atI_nat (j := 1) rfl, _, _, rfl, rfl, mulW fp.bt fq.bb (by decide) (by decide) (by decide), ?_⟩
    refine ⟨_, rfl, a, _, _, _, rfl, rfl, ha, atI_nat (j := 1) rfl, _, rfl, b, _, _, _, rfl, rfl, hb, atI_nat (j := 0) rfl, _, _, rfl, rfl, mulW fp.bb fq.bt (by decide) (by decide) (by decide), ?_⟩
    have hbp := Int.mul_pos fp.low.pos fq.top
    exact ⟨_, _, rfl, by omega, log_small (by decide) (lt_mul (n := 8999) fp.bb fq.bt (by decide)) (by decide), bin_out k⟩
def sp_size (K : PySem.W.Frag) : Sp := fun vs H Q _ => ∃ n : Int, vs = [.int n] ∧ ∀ H' v x, Same H H' → PrAt K H' v x → Frac 10 x → Q v H'
theorem ok__law_size (T : Env K mg) : FnOk P w K mg base CX0 2 T.a__law_size T.fd__law_size ["_law_one"] (sp_size K) := by
  refine T.F__law_size.ok sc__law_size (fun vs H Q E h => ?_) (fun cdv A outer s H vs Q E hr h => ?_)
  · obtain ⟨n, rfl, _⟩ := h
    rfl
  · obtain ⟨n, rfl, k⟩ := h
    refine ⟨_, (pss_cons (ps_if (pt_cmpR op_eq (pe_op op_mod (pv 0) pe_int) pe_int (nomark _))
 (pss_one (ps_ret (pe_call (ok__law_low T) (hr.mono (by decide)) (by rfl) T.g__law_low T.F__law_low.kp T.b__law_low .nil pass0 (pa_cons (pe_op op_add pe_int (pe_op op_mod (pe_op op_fdiv (pv 0) pe_int) pe_int)) (pa_cons (pe_op op_add pe_int (pe_op op_mod (pe_op op_fdiv (pv 0) pe_int) pe_int)) pa_nil)))))
 pss_nil)
 (pss_one (ps_ret (pe_call (ok__law_low T) (hr.mono (by decide)) (by rfl) T.g__law_low T.F__law_low.kp T.b__law_low .nil pass0 (pa_cons (pe_op op_add pe_int (pe_op op_mod (pv 0) pe_int)) (pa_cons (pe_op op_add pe_int (pe_op op_mod (pe_op op_fdiv (pv 0) pe_int) pe_int)) pa_nil)))))), ?_⟩
    have out : ∀ t b : Int, 0 < t → 0 < b → t < 1000 → b < 1000 → b ≠ 0 ∧ b.natAbs.log2 < 9000 ∧ ∀ r, H r = none → Q (.ref r) (upd H r (.tup [.int (lowI t b).1, .int (lowI t b).2])) := fun t b h1 h2 h3 h4 =>
      ⟨by omega, log_small (b := 10) (by decide) (by omega) (by decide), fun r hr => k _ _ _ (same_new hr) ⟨r, rfl, upd_same⟩ (lowV h1 h2 (by omega) (by omega))⟩
    have m := fun (z : Int) (d : Int) (hd : 0 < d) => And.intro (Int.emod_nonneg z (show d ≠ 0 by omega)) (Int.emod_lt_of_pos z hd)
    have m1 := m (n / 11) 997 (by decide)
    have m2 := m (n / 7) 89 (by decide)
    have m3 := m n 12 (by decide)
    have m4 := m (n / 12) 7 (by decide)
    refine ⟨_, rfl, _, _, rfl, rfl, (by show (0 : Int) < _; decide), rfl, _, rfl, ite2 (fun _ => ?_) (fun _ => ?_)⟩
    · refine ⟨_, rfl, _, _, rfl, rfl, ⟨by decide, by decide⟩, _, _, rfl, rfl, (by show (0 : Int) < _; decide), _, _, rfl, rfl, ?_⟩
      refine ⟨_, rfl, _, _, rfl, rfl, ⟨by decide, by decide⟩, _, _, rfl, rfl, (by show (0 : Int) < _; decide), _, _, rfl, rfl, ?_⟩
      exact ⟨_, _, rfl, out _ _ (by omega) (by omega) (by omega) (by omega)⟩
    · refine ⟨_, rfl, _, _, rfl, rfl, (by show (0 : Int) < _; decide), _, _, rfl, rfl, ?_⟩
      refine ⟨_, rfl, _, _, rfl, rfl, ⟨by decide, by decide⟩, _, _, rfl, rfl, (by show (0 : Int) < _; decide), _, _, rfl, rfl, ?_⟩
      exact ⟨_, _, rfl, out _ _ (by omega) (by omega) (by omega) (by omega)⟩

theorem ok_plus (T : Env K mg) : FnOk P w K mg base CX0 2 T.a_plus T.fd_plus ["one", "other"] (sp_bin K addV) := by
  refine T.F_plus.ok sc_plus (fun vs H Q E h => ?_) (fun cdv A outer s H vs Q E hr h => ?_)
  · obtain ⟨x, y, p, q, rfl, _⟩ := h
    rfl
  · obtain ⟨x, y, p, q, rfl, hx, hy, fp, fq, k⟩ := h
    refine ⟨_, (pss_one (ps_ret (pe_call (ok_lowest T) (hr.mono (by decide)) (by rfl) T.g_lowest T.F_lowest.kp T.b_lowest .nil passL (pa_cons (pe_op op_add (pe_op op_mulU (pe_ix ix_tup (pv 0) pe_int (fun _ _ => rfl)) (pe_ix ix_tup (pv 1) pe_int (fun _ _ => rfl))) (pe_op op_mulU (pe_ix ix_tup (pv 1) pe_int (fun _ _ => rfl)) (pe_ix ix_tup (pv 0) pe_int (fun _ _ => rfl)))) (pa_cons (pe_op op_mulU (pe_ix ix_tup (pv 0) pe_int (fun _ _ => rfl)) (pe_ix ix_tup (pv 1) pe_int (fun _ _ => rfl))) pa_nil))))), ?_⟩
    obtain ⟨a, rfl, ha⟩ := hx.sq
    obtain ⟨b, rfl, hb⟩ := hy.sq
    refine ⟨_, rfl, a, _, _, _, rfl, rfl, ha, atI_nat (j := 0) rfl, _, rfl, b, _, _, _, rfl, rfl, hb, atI_nat (j := 1) rfl, _, _, rfl, rfl, mulW fp.bt fq.bb (by decide) (by decide) (by decide), ?_⟩
    refine ⟨_, rfl, b, _, _, _, rfl, rfl, hb, atI_nat (j := 0) rfl, _, rfl, a, _, _, _, rfl, rfl, ha, atI_nat (j := 1) rfl, _, _, rfl, rfl, mulW fq.bt fp.bb (by decide) (by decide) (by decide), _, _, rfl, rfl, ?_⟩
    refine ⟨_, rfl, a, _, _, _, rfl, rfl, ha, atI_nat (j := 1) rfl, _, rfl, b, _, _, _, rfl, rfl, hb, atI_nat (j := 1) rfl, _, _, rfl, rfl, mulW fp.bb fq.bb (by decide) (by decide) (by decide), ?_⟩
    have hbp := Int.mul_pos fp.low.pos fq.low.pos
    exact ⟨_, _, rfl, log_small (by decide) (lt_mul (n := 8999) fp.bb fq.bb (by decide)) (by decide), fun z => absurd z (by omega), fun _ => bin_out k⟩
theorem ok__law_add (T : Env K mg) : FnOk P w K mg base CX0 2 T.a__law_add T.fd__law_add ["_law_one", "_law_other"] (sp_bin K addV) := by
  refine T.F__law_add.ok sc__law_add (fun vs H Q E h => ?_) (fun cdv A outer s H vs Q E hr h => ?_)
  · obtain ⟨x, y, p, q, rfl, _⟩ := h
    rfl
  · obtain ⟨x, y, p, q, rfl, hx, hy, fp, fq, k⟩ := h
    refine ⟨_, (pss_one (ps_ret (pe_call (ok__law_low T) (hr.mono (by decide)) (by rfl) T.g__law_low T.F__law_low.kp T.b__law_low .nil pass0 (pa_cons (pe_op op_add (pe_op op_mulU (pe_ix ix_tup (pv 0) pe_int (fun _ _ => rfl)) (pe_ix ix_tup (pv 1) pe_int (fun _ _ => rfl))) (pe_op op_mulU (pe_ix ix_tup (pv 1) pe_int (fun _ _ => rfl)) (pe_ix ix_tup (pv 0) pe_int (fun _ _ => rfl)))) (pa_cons (pe_op op_mulU (pe_ix ix_tup (pv 0) pe_int (fun _ _ => rfl)) (pe_ix ix_tup (pv 1) pe_int (fun _ _ => rfl))) pa_nil))))), ?_⟩
    obtain ⟨a, rfl, ha⟩ := hx.sq
    obtain ⟨b, rfl, hb⟩ := hy.sq
    refine ⟨_, rfl, a, _, _, _, rfl, rfl, ha, atI_nat (j := 0) rfl, _, rfl, b, _, _, _, rfl, rfl, hb, atI_nat (j := 1) rfl, _, _, rfl, rfl, mulW fp.bt fq.bb (by decide) (by decide) (by decide), ?_⟩
    refine ⟨_, rfl, b, _, _, _, rfl, rfl, hb, atI_nat (j := 0) rfl, _, rfl, a, _, _, _, rfl, rfl, ha, atI_nat (j := 1) rfl, _, _, rfl, rfl, mulW fq.bt fp.bb (by decide) (by decide) (by decide), _, _, rfl, rfl, ?_⟩
    refine ⟨_, rfl, a, _, _, _, rfl, rfl, ha, atI_nat (j := 1) rfl, _, rfl, b, _, _, _, rfl, rfl, hb, atI_nat (j := 1) rfl, _, _, rfl, rfl, mulW fp.bb fq.bb (by decide) (by decide) (by decide), ?_⟩
    have hbp := Int.mul_pos fp.low.pos fq.low.pos
    exact ⟨_, _, rfl, by omega, log_small (by decide) (lt_mul (n := 8999) fp.bb fq.bb (by decide)) (by decide), bin_out k⟩

def PrQ (K : PySem.W.Frag) (H : Hp) (x : V) (p : Int × Int) : Prop := ∃ t, x = V.ref t ∧ SqT K H t [.int p.1, .int p.2]
def sp_binQ (K : PySem.W.Frag) (F : Int × Int → Int × Int → Int × Int) : Sp := fun vs H Q _ => ∃ (x y : V) (p q : Int × Int), vs = [x, y] ∧ PrQ K H x p ∧ PrQ K H y q ∧ Frac 4000 p ∧ Frac 4000 q ∧
  ∀ H' v, Same H H' → PrAt K H' v (F p q) → Q v H'
theorem ok_plusQ (T : Env K mg) : FnOk P w K mg base CX0 2 T.a_plus T.fd_plus ["one", "other"] (sp_binQ K addV) := by
  refine T.F_plus.ok sc_plus (fun vs H Q E h => ?_) (fun cdv A outer s H vs Q E hr h => ?_)
  · obtain ⟨x, y, p, q, rfl, _⟩ := h
    rfl
  · obtain ⟨x, y, p, q, rfl, ⟨a, rfl, ha⟩, ⟨b, rfl, hb⟩, fp, fq, k⟩ := h
    refine ⟨_, (pss_one (ps_ret (pe_call (ok_lowest T) (hr.mono (by decide)) (by rfl) T.g_lowest T.F_lowest.kp T.b_lowest .nil passL (pa_cons (pe_op op_add (pe_op op_mulU (pe_ix ix_tup (pv 0) pe_int (fun _ _ => rfl)) (pe_ix ix_tup (pv 1) pe_int (fun _ _ => rfl))) (pe_op op_mulU (pe_ix ix_tup (pv 1) pe_int (fun _ _ => rfl)) (pe_ix ix_tup (pv 0) pe_int (fun _ _ => rfl)))) (pa_cons (pe_op op_mulU (pe_ix ix_tup (pv 0) pe_int (fun _ _ => rfl)) (pe_ix ix_tup (pv 1) pe_int (fun _ _ => rfl))) pa_nil))))), ?_⟩
    refine ⟨_, rfl, a, _, _, _, rfl, rfl, ha, atI_nat (j := 0) rfl, _, rfl, b, _, _, _, rfl, rfl, hb, atI_nat (j := 1) rfl, _, _, rfl, rfl, mulW fp.bt fq.bb (by decide) (by decide) (by decide), ?_⟩
    refine ⟨_, rfl, b, _, _, _, rfl, rfl, hb, atI_nat (j := 0) rfl, _, rfl, a, _, _, _, rfl, rfl, ha, atI_nat (j := 1) rfl, _, _, rfl, rfl, mulW fq.bt fp.bb (by decide) (by decide) (by decide), _, _, rfl, rfl, ?_⟩
    refine ⟨_, rfl, a, _, _, _, rfl, rfl, ha, atI_nat (j := 1) rfl, _, rfl, b, _, _, _, rfl, rfl, hb, atI_nat (j := 1) rfl, _, _, rfl, rfl, mulW fp.bb fq.bb (by decide) (by decide) (by decide), ?_⟩
    have hbp := Int.mul_pos fp.low.pos fq.low.pos
    exact ⟨_, _, rfl, log_small (by decide) (lt_mul (n := 8999) fp.bb fq.bb (by decide)) (by decide), fun z => absurd z (by omega), fun _ => bin_out k⟩
theorem ok_overQ (T : Env K mg) : FnOk P w K mg base CX0 2 T.a_over T.fd_over ["one", "other"] (sp_binQ K divV) := by
  refine T.F_over.ok sc_over (fun vs H Q E h => ?_) (fun cdv A outer s H vs Q E hr h => ?_)
  · obtain ⟨x, y, p, q, rfl, _⟩ := h
    rfl
  · obtain ⟨x, y, p, q, rfl, ⟨a, rfl, ha⟩, ⟨b, rfl, hb⟩, fp, fq, k⟩ := h
    refine ⟨_, (pss_one (ps_ret (pe_call (ok_lowest T) (hr.mono (by decide)) (by rfl) T.g_lowest T.F_lowest.kp T.b_lowest .nil passL (pa_cons (pe_op op_mulU (pe_ix ix_tup (pv 0) pe_int (fun _ _ => rfl)) (pe_ix ix_tup (pv 1) pe_int (fun _ _ => rfl))) (pa_cons (pe_op op_mulU (pe_ix ix_tup (pv 0) pe_int (fun _ _ => rfl)) (pe_ix ix_tup (pv 1) pe_int (fun _ _ => rfl))) pa_nil))))), ?_⟩
    refine ⟨_, rfl, a, _, _, _, rfl, rfl, ha, atI_nat (j := 0) rfl, _, rfl, b, _, _, _, rfl, rfl, hb, atI_nat (j := 1) rfl, _, _, rfl, rfl, mulW fp.bt fq.bb (by decide) (by decide) (by decide), ?_⟩
    refine ⟨_, rfl, a, _, _, _, rfl, rfl, ha, atI_nat (j := 1) rfl, _, rfl, b, _, _, _, rfl, rfl, hb, atI_nat (j := 0) rfl, _, _, rfl, rfl, mulW fp.bb fq.bt (by decide) (by decide) (by decide), ?_⟩
    have hbp := Int.mul_pos fp.low.pos fq.top
    exact ⟨_, _, rfl, log_small (by decide) (lt_mul (n := 8999) fp.bb fq.bt (by decide)) (by decide), fun z => absurd z (by omega), fun _ => bin_out k⟩
theorem one_sq (T : Env K mg) (H : Hp) : SqT K H T.o_ONE [.int 1, .int 1] := by
  obtain ⟨oc, n, sl, t0, t1, e⟩ := T.l_ONE
  exact .inr ⟨_, _, n, e, rfl, rfl, by show 2 ≤ sizeLine; decide, .cons ⟨t0, rfl⟩ (.cons ⟨t1, rfl⟩ .nil)⟩
/-! ### a key that stands gets another value -/
theorem Ents.set {H H' : Hp} {kvs : List (List Key × V)} {dom : List (Int × Int)} {f : Int × Int → Int × Int} (h : Ents K H kvs dom f) (ts : TupS H H') (p x : Int × Int) (v : V) (hv : PrAt K H' v x) :
    Ents K H' (kvs.map fun kv => if kv.1 = pk p then (kv.1, v) else kv) dom (setF f p x) := by
  induction h with
  | nil => exact .nil
  | @cons kv q xs ys h _ ih =>
    refine .cons ?_ ih
    show (if kv.1 = pk p then (kv.1, v) else kv).1 = pk q ∧ PrAt K H' (if kv.1 = pk p then (kv.1, v) else kv).2 (setF f p x q)
    by_cases e : q = p
    · subst e
      rw [if_pos h.1]
      refine ⟨h.1, ?_⟩
      show PrAt K H' v (setF f q x q)
      unfold setF
      rw [if_pos rfl]
      exact hv
    · rw [if_neg (fun z => e (pk_inj (h.1.symm.trans z)))]
      refine ⟨h.1, ?_⟩
      show PrAt K H' kv.2 (setF f p x q)
      unfold setF
      rw [if_neg e]
      obtain ⟨t, e1, e2⟩ := h.2
      exact ⟨t, e1, ts _ _ e2⟩
theorem FD.set {H : Hp} {a : Addr} {dom : List (Int × Int)} {f : Int × Int → Int × Int} {kvs : List (List Key × V)} {v : V} {p x : Int × Int} (nd : dom.Nodup) (sm : ∀ p ∈ dom, smallP p) (e : H a = some (.dT kvs)) (h : Ents K H kvs dom f) (hp : p ∈ dom) (hv : PrAt K H v x) :
    FD K (upd H a (.dT (putK kvs (pk p) v))) a dom (setF f p x) := by
  obtain ⟨v0, g0, _⟩ := h.get hp
  have ep : putK kvs (pk p) v = kvs.map fun kv => if kv.1 = pk p then (kv.1, v) else kv := by
    unfold putK
    rw [valV_any, g0]
    rfl
  rw [ep]
  have ts : TupS H (upd H a (.dT (kvs.map fun kv => if kv.1 = pk p then (kv.1, v) else kv))) := fun t xs q => by
    rw [upd_ne (ne_of q e (fun z => nomatch z))]
    exact q
  obtain ⟨t, e1, e2⟩ := hv
  exact ⟨⟨_, upd_same, Ents.set h ts p x v ⟨t, e1, ts _ _ e2⟩⟩, nd, sm⟩

/-! ### turning -/
def turnL (n : Int) (l : List (Int × Int)) (p : Int × Int) : List (Int × Int) := match besL (tiesS n l) n p.1 p.2 with
  | [x, y] => sort2 ((l.filter fun q => decide (q ≠ p)) ++ [(x, y)])
  | _ => []
/-- what a turning makes -/
structure Turns (n : Int) (l : List (Int × Int)) (p : Int × Int) (x y : Int) : Prop where
  bes : besL (tiesS n l) n p.1 p.2 = [x, y]
  x0 : 0 ≤ x
  xy : x < y
  yn : y < n
  new : (x, y) ∉ l
  crs : (x < p.1 ∧ p.1 < y ∧ y < p.2) ∨ (p.1 < x ∧ x < p.2 ∧ p.2 < y)
  isC : IsCut n (turnL n l p)
  mem : ∀ q, q ∈ turnL n l p ↔ (q ∈ l ∧ q ≠ p) ∨ q = (x, y)
  srt : (turnL n l p).Pairwise le2
  len : (turnL n l p).length = l.length
theorem filter_ne_len {l : List (Int × Int)} {p : Int × Int} (hn : l.Nodup) (hp : p ∈ l) : (l.filter fun q => decide (q ≠ p)).length + 1 = l.length := by
  induction l with
  | nil => cases hp
  | cons a l ih =>
    rw [List.nodup_cons] at hn
    rw [List.filter_cons]
    by_cases e : a = p
    · subst e
      rw [if_neg (by simp)]
      have : l.filter (fun q => decide (q ≠ a)) = l := List.filter_eq_self.mpr fun q hq => decide_eq_true fun e => hn.1 (e ▸ hq)
      rw [this, List.length_cons]
    · rw [if_pos (by simpa using e), List.length_cons, List.length_cons, ih hn.2 ((List.mem_cons.mp hp).resolve_left (Ne.symm e))]
theorem turns {n : Int} {l : List (Int × Int)} {p : Int × Int} (hc : IsCut n l) (hp : p ∈ l) : ∃ x y, Turns n l p x y := by
  obtain ⟨a, b⟩ := p
  obtain ⟨x, y, h1, h2, h3, h4, h5, h6, h7⟩ := turn_cut hc (t := tiesS n l) (fun p => sort2_mem) hp
  have e : turnL n l (a, b) = sort2 ((l.filter fun q => decide (q ≠ (a, b))) ++ [(x, y)]) := by
    unfold turnL
    rw [h1]
  have hm : ∀ q, q ∈ turnL n l (a, b) ↔ (q ∈ l ∧ q ≠ (a, b)) ∨ q = (x, y) := fun q => by
    rw [e, sort2_mem, List.mem_append, List.mem_filter, decide_eq_true_eq, List.mem_singleton]
  have hnd : ((l.filter fun q => decide (q ≠ (a, b))) ++ [(x, y)]).Nodup := by
    rw [List.nodup_append]
    refine ⟨hc.nd.filter _, by simp, fun u hu v hv => ?_⟩
    rw [List.mem_singleton.mp hv]
    intro e
    rw [e] at hu
    exact h5 (List.mem_filter.mp hu).1
  refine ⟨x, y, h1, h2, h3, h4, h5, h6, h7 _ ?_ hm, hm, ?_, ?_⟩
  · rw [e]; exact sort2_nodup hnd
  · rw [e]; exact sort2_sorted _
  · rw [e, sort2_len, List.length_append, List.length_singleton]
    exact filter_ne_len hc.nd hp
def sp_newrope (K : PySem.W.Frag) (C : Addr) : Sp := fun vs H Q E => ∃ (n : Int) (c : Addr) (xs : List V) (l : List (Int × Int)) (a b : Int), vs = [.int n, .ref c, .int a, .int b] ∧ 3 ≤ n ∧ n ≤ 12 ∧ H c = some (.lst xs) ∧ PrL K H xs l ∧ l.length ≤ 100 ∧ IsCut n l ∧
  (pr a b ∉ l → ∀ H', Same H H' → E (.ref C) none H') ∧
  (pr a b ∈ l → ∀ x y, Turns n l (pr a b) x y → ∀ H' q, Same H H' → H q = none → H' q = some (.tup [.int x, .int y]) → Q (.ref q) H')
theorem rope_tie {n : Int} {l : List (Int × Int)} {p : Int × Int} (h : p ∈ l) : p ∈ tiesS n l := sort2_mem.mpr (List.mem_append.mpr (.inr h))
theorem ok_new_rope (T : Env K mg) : FnOk P w K mg base (L2.CX P w) 4 T.a_new_rope T.fd_new_rope ["n", "cut", "a", "b"] (sp_newrope K T.C_NoRope) := by
  refine T.F_new_rope.okX sc_new_rope (fun vs H Q E h => ?_) (fun cdv A outer s H vs Q E hr h => ?_)
  · obtain ⟨n, c, xs, l, a, b, rfl, _⟩ := h
    rfl
  · obtain ⟨n, c, xs, l, a, b, rfl, h3, h12, hc, hL, hl, hC, k0, k1⟩ := h
    refine ⟨_, (pss_cons (ps_if (pt_cmpR (op_notIn2 (by have h_ := Room.units2 hr; exact h_)) (pe_call (ok_pair_of T) (hr.mono (by decide)) (by rfl) T.g_pair_of T.F_pair_of.kp T.b_pair_of .nil pass0 (pa_cons (pv 2) (pa_cons (pv 3) pa_nil))) (pv 1) (by rfl))
 (pss_one (ps_raise rfl (takes_of rfl rfl rfl rfl) (pmk_own PySem.F.excBase_ValueError T.x_NoRope T.c_NoRope T.k_NoRope (raises_own T.bs_NoRope T.ty_NoRope) rfl)))
 pss_nil)
 (pss_one (ps_ret (pe_tupleOf (by rfl) T.m_tuple (pe_callS (ok_beside T) (hr.mono (by decide)) (by rfl) T.g_beside T.F_beside.kp T.b_beside (fun σ => passAt (takes_of rfl rfl rfl rfl) σ) (pa_cons (pv 0) (pa_cons (pv 1) (pa_cons (pv 2) (pa_cons (pv 3) pa_nil))))))))), ?_⟩
    refine ⟨_, rfl, _, rfl, a, b, rfl, fun t ht => ?_⟩
    have s2 : Same H _ := same_new (o := .tup [.int (pr a b).1, .int (pr a b).2]) ht
    have ht2 : (upd H t (.tup [.int (pr a b).1, .int (pr a b).2])) t = some (.tup [.int (pr a b).1, .int (pr a b).2]) := upd_same
    generalize upd H t (.tup [.int (pr a b).1, .int (pr a b).2]) = H2 at *
    refine ⟨_, rfl, pr a b, c, xs, l, ⟨t, rfl, ht2⟩, rfl, .inl (.inl (s2 _ _ hc)), hL.mono s2, by omega, _, rfl, ?_⟩
    refine ite2 (fun hd => ?_) (fun hd => ?_)
    · have hd : (!decide (pr a b ∈ l)) = true := hd
      have hn : pr a b ∉ l := fun hm => by rw [decide_eq_true hm] at hd; cases hd
      exact k0 hn H2 s2
    · have hd : ¬ (!decide (pr a b ∈ l)) = true := hd
      have hm : pr a b ∈ l := Decidable.by_contra fun hn => hd (by rw [decide_eq_false hn]; rfl)
      obtain ⟨x, y, hT⟩ := turns hC hm
      refine ⟨_, rfl, _, rfl, _, rfl, _, rfl, n, c, xs, l, a, b, rfl, h3, h12, s2 _ _ hc, hL.mono s2, hl, fun hn => absurd (rope_tie hm) hn, fun _ H3 q s3 nq hq => ?_⟩
      have eb : besL (tiesS n l) n a b = [x, y] := (besL_pr _ _ _ _).trans hT.bes
      rw [eb] at hq
      refine .inl ⟨q, _, rfl, .inl (.inl hq), fun u hu => ?_⟩
      exact k1 hm x y hT _ u (s2.trans (s3.trans (same_new hu))) (none_back (s2.trans s3) hu) upd_same

theorem PrAt.tups {H H' : Hp} {x : V} {p : Int × Int} (s : TupS H H') (h : PrAt K H x p) : PrAt K H' x p := by
  obtain ⟨t, e, ht⟩ := h
  exact ⟨t, e, s _ _ ht⟩

def sp_lturned (K : PySem.W.Frag) : Sp := fun vs H Q _ => ∃ (n : Int) (c : Addr) (r : V) (xs : List V) (l : List (Int × Int)) (p : Int × Int), vs = [.int n, .ref c, r] ∧ 3 ≤ n ∧ n ≤ 12 ∧ H c = some (.lst xs) ∧ PrL K H xs l ∧ PrAt K H r p ∧ l.length ≤ 100 ∧ IsCut n l ∧ p ∈ l ∧
  ∀ H' q ys, Same H H' → H q = none → H' q = some (.lst ys) → PrL K H' ys (turnL n l p) → Q (.ref q) H'
theorem ok__law_turned (T : Env K mg) : FnOk P w K mg base CX0 3 T.a__law_turned T.fd__law_turned ["_law_n", "_law_cut", "_law_rope"] (sp_lturned K) := by
  refine T.F__law_turned.ok sc__law_turned (fun vs H Q E h => ?_) (fun cdv A outer s H vs Q E hr h => ?_)
  · obtain ⟨n, c, r, xs, l, p, rfl, _⟩ := h
    rfl
  · obtain ⟨n, c, r, xs, l, p, rfl, h3, h12, hc, hL, hr', hl, hC, hp, k1⟩ := h
    refine ⟨_, (pss_cons (ps_set (i := 3) sc__law_turned.nd rfl (.inl rfl) (pe_call (ok__law_beside T) (hr.mono (by decide)) (by rfl) T.g__law_beside T.F__law_beside.kp T.b__law_beside .nil pass0 (pa_cons (pv 0) (pa_cons (pe_call (ok__law_ties T) (hr.mono (by decide)) (by rfl) T.g__law_ties T.F__law_ties.kp T.b__law_ties .nil pass0 (pa_cons (pv 0) (pa_cons (pv 1) pa_nil))) (pa_cons (pe_ix ix_tup (pv 2) pe_int (fun _ _ => rfl)) (pa_cons (pe_ix ix_tup (pv 2) pe_int (fun _ _ => rfl)) pa_nil))))))
 (pss_one (ps_ret (pe_callB cr_sort2 (by rfl) T.m_sorted (by decide +kernel) (pa_cons (pe_op op_cat (pe_lc (own := [("_law_one", 4)]) (by rfl) sc__law_turned.nd (pi_list (pv 1)) (blkOk_by (own := [("_law_one", 4)]) (N := ["_law_n", "_law_cut", "_law_rope", "_law_ends", "_law_one"]) (sc := defScope s__law_turned) (by decide +kernel)) (fun _ _ _ _ _ => (pg_name (i := 4) sc__law_turned.nd rfl (.inl rfl))) (fun _ _ _ _ _ => (pts_one (pt_cmpR (r := rEqP2 K true) (op_neP2 (by have h_ := hr.units; exact h_)) (pv 4) (pv 2) (nomark _)))) (fun _ _ _ _ _ => (pv 4))) (pe_lst (pa_cons (pe_tup (pa_cons (pe_ix ix_list (pv 3) pe_int (fun _ _ => rfl)) (pa_cons (pe_ix ix_list (pv 3) pe_int (fun _ _ => rfl)) pa_nil))) pa_nil))) pa_nil))))), ?_⟩
    obtain ⟨x, y, hT⟩ := turns hC hp
    obtain ⟨t, rfl, ht⟩ := hr'
    have htl := tiesS_len h3 h12 hl
    have hxl := hL.length
    refine ⟨_, rfl, _, rfl, _, rfl, n, c, xs, l, rfl, h3, h12, hc, hL, hl, fun H1 d zs s1 nd hd hZ => ?_⟩
    have hT1 : SqT K H1 t [.int p.1, .int p.2] := .inl (.inl (s1 _ _ ht))
    refine ⟨_, rfl, t, _, _, _, rfl, rfl, hT1, atI_nat (j := 0) rfl, _, rfl, t, _, _, _, rfl, rfl, hT1, atI_nat (j := 1) rfl, n, d, zs, _, p.1, p.2, rfl, h3, h12, hd, hZ, htl, fun H2 e s2 ne he => ?_⟩
    rw [hT.bes] at he
    have s12 := s1.trans s2
    have hE : SqL K H2 e [.int x, .int y] := .inl (.inl he)
    refine ⟨_, rfl, c, rfl, ⟨_, .inl (.inl (s12 _ _ hc))⟩, fun D hD => ?_⟩
    refine lc_list (K := K) (a := c) (xs := xs) (fun i H' => ∃ ws, Same H2 H' ∧ H' D = some (.lst ws) ∧ PrL K H' ws ((l.take i).filter fun q => decide (q ≠ p))) ⟨[], same_new hD, upd_same, by rw [List.take_zero]; exact .nil⟩ ?_ ?_ ?_
    · rintro i H' _ ⟨ws, s3, _, _⟩
      exact .inl (.inl (s3 _ _ (s12 _ _ hc)))
    · rintro i x' H' hi ⟨ws, s3, hz, hW⟩
      obtain ⟨q', hq', hx⟩ := hL.at hi
      have hx' := hx.mono (s12.trans s3)
      have hil : i < l.length := (List.getElem?_eq_some_iff.mp hq').1
      have hzl := hW.length
      have hfl : ((l.take i).filter fun q => decide (q ≠ p)).length ≤ i := Nat.le_trans (List.length_filter_le _ _) (by rw [List.length_take]; omega)
      refine ⟨rfl, _, rfl, _, rfl, q', p, hx', ⟨t, rfl, s3 _ _ (s12 _ _ ht)⟩, _, rfl, ?_⟩
      show if (!decide (q' = p)) = true then _ else _
      rw [take_more hq', filter_more]
      by_cases e : q' = p
      · rw [decide_eq_true e]
        refine iteF ?_
        rw [if_neg (by simp [e]), List.append_nil]
        exact ⟨ws, s3, hz, hW⟩
      · rw [decide_eq_false e]
        refine iteT ?_
        rw [if_pos (by simpa using e)]
        refine ⟨_, rfl, ws, hz, small200' (by omega), ws ++ [x'], ?_, upd_same, ?_⟩
        · intro b' o eb
          rw [upd_ne (ne_of_none eb hD)]
          exact s3 _ _ eb
        · have ts := TupS.put (o := .lst (ws ++ [x'])) hz
          exact (hW.tups ts).app (.one (hx'.tups ts))
    · rintro H' ⟨ws, s3, hz, hW⟩
      rw [List.take_of_length_le (by omega)] at hW
      have hzl := hW.length
      have hfl : (l.filter fun q => decide (q ≠ p)).length ≤ l.length := List.length_filter_le _ _
      have hE' : SqL K H' e [.int x, .int y] := s3.seq hE
      refine ⟨_, rfl, e, _, _, _, rfl, rfl, hE', atI_nat (j := 0) rfl, _, rfl, e, _, _, _, rfl, rfl, hE', atI_nat (j := 1) rfl, small200 (by show 2 ≤ 200; decide), fun u hu => ?_⟩
      have s4 : Same H' _ := same_new (o := .tup [.int x, .int y]) hu
      have hu2 : (upd H' u (.tup [.int x, .int y])) u = some (.tup [.int x, .int y]) := upd_same
      generalize upd H' u (.tup [.int x, .int y]) = H3 at *
      refine ⟨small200 (by show 1 ≤ 200; decide), fun v hv => ?_⟩
      have s5 : Same H3 _ := same_new (o := .lst [.ref u]) hv
      have hv2 : (upd H3 v (.lst [.ref u])) v = some (.lst [.ref u]) := upd_same
      generalize upd H3 v (.lst [.ref u]) = H4 at *
      refine ⟨D, v, ws, [.ref u], rfl, rfl, s5 _ _ (s4 _ _ hz), hv2, small200 (by show ws.length + 1 ≤ 200; omega), fun r hr2 => ?_⟩
      have s6 : Same H4 _ := same_new (o := .lst (ws ++ [.ref u])) hr2
      have hr3 : (upd H4 r (.lst (ws ++ [.ref u]))) r = some (.lst (ws ++ [.ref u])) := upd_same
      generalize upd H4 r (.lst (ws ++ [.ref u])) = H5 at *
      have s46 := (s4.trans s5).trans s6
      have s16 := (s12.trans s3).trans s46
      have hZ5 : PrL K H5 (ws ++ [.ref u]) ((l.filter fun q => decide (q ≠ p)) ++ [(x, y)]) := (hW.mono s46).app (.one ⟨u, rfl, (s5.trans s6) _ _ hu2⟩)
      refine ⟨r, _, _, rfl, .inl (.inl hr3), hZ5, fun ys g hY hg => ?_⟩
      have e : turnL n l p = sort2 ((l.filter fun q => decide (q ≠ p)) ++ [(x, y)]) := by
        unfold turnL
        rw [hT.bes]
      rw [← e] at hY
      have s7 : Same H5 _ := same_new (o := .lst ys) hg
      exact k1 _ g ys (s16.trans s7) (none_back s16 hg) upd_same (hY.mono s7)

/-! ### two pairs cross -/
def crossI (p q : Int × Int) : Bool := if q.1 = p.1 ∨ q.1 = p.2 ∨ q.2 = p.1 ∨ q.2 = p.2 then false else
  decide ((decide (min p.1 p.2 < q.1 ∧ q.1 < max p.1 p.2)) ≠ (decide (min p.1 p.2 < q.2 ∧ q.2 < max p.1 p.2)))
theorem dec_ne (A B : Prop) [Decidable A] [Decidable B] : (decide A ≠ decide B) ↔ ¬ (A ↔ B) := by
  by_cases h1 : A <;> by_cases h2 : B <;> simp [h1, h2]
theorem crossI_symm {p q : Int × Int} (h1 : p.1 ≠ p.2) (h2 : q.1 ≠ q.2) : crossI p q = crossI q p := by
  obtain ⟨a, b⟩ := p
  obtain ⟨c, d⟩ := q
  unfold crossI
  dsimp only at *
  by_cases e : c = a ∨ c = b ∨ d = a ∨ d = b
  · rw [if_pos e, if_pos (by omega)]
  · rw [if_neg e, if_neg (by omega), decide_eq_decide, dec_ne, dec_ne]
    omega
def sp_cross (K : PySem.W.Frag) : Sp := fun vs H Q _ => ∃ (x y : V) (p q : Int × Int), vs = [x, y] ∧ PrAt K H x p ∧ PrAt K H y q ∧ Q (.bl (crossI p q)) H
def sp_crosses (K : PySem.W.Frag) : Sp := fun vs H Q _ => ∃ (x y : V) (p q : Int × Int), vs = [x, y] ∧ PrAt K H x p ∧ PrAt K H y q ∧ Q (.bl (crossI q p)) H
theorem inV2 (i a b : Int) : inV (V.int i) [V.int a, V.int b] = decide (i = a ∨ i = b) := by
  show ((a == i) || ((b == i) || false)) = _
  have e : ∀ x y : Int, (x == y) = decide (y = x) := fun x y => by
    by_cases h : y = x
    · rw [decide_eq_true h, h]; exact beq_self_eq_true x
    · rw [decide_eq_false h]; exact beq_eq_false_iff_ne.mpr fun z => h z.symm
  rw [Bool.or_false, e, e, ← Bool.decide_or]
/-- low < i < high, i asked once -/
def rChainI (lo hi i : Int) : Bool := decide (lo < i ∧ i < hi)

theorem cross_fin {lo hi i j : Int} : (!decide (V.bl (decide (lo < i ∧ i < hi)) = V.bl (decide (lo < j ∧ j < hi)))) = decide ((decide (lo < i ∧ i < hi)) ≠ (decide (lo < j ∧ j < hi))) := by
  rw [← decide_not, decide_eq_decide]
  exact ⟨fun h e => h (congrArg V.bl e), fun h e => h (V.bl.inj e)⟩
theorem crossI_t {p q : Int × Int} (h : q.1 = p.1 ∨ q.1 = p.2 ∨ q.2 = p.1 ∨ q.2 = p.2) : crossI p q = false := by unfold crossI; rw [if_pos h]
theorem crossI_f {p q : Int × Int} (h : ¬ (q.1 = p.1 ∨ q.1 = p.2 ∨ q.2 = p.1 ∨ q.2 = p.2)) : crossI p q = (!decide (V.bl (decide (min p.1 p.2 < q.1 ∧ q.1 < max p.1 p.2)) = V.bl (decide (min p.1 p.2 < q.2 ∧ q.2 < max p.1 p.2)))) := by
  unfold crossI
  rw [cross_fin, if_neg h]

/-! ### turned and turned again: the mathematics -/
theorem list2_ext {l m : List (Int × Int)} (h1 : l.Pairwise le2) (h2 : m.Pairwise le2) (n1 : l.Nodup) (n2 : m.Nodup) (h : ∀ x, x ∈ l ↔ x ∈ m) : l = m :=
  List.Perm.eq_of_pairwise (le := le2) (fun _ _ _ _ => le2_anti) h1 h2 ((List.perm_ext_iff_of_nodup n1 n2).mpr h)
theorem cut_lt {n : Int} {l : List (Int × Int)} (h : IsCut n l) {p : Int × Int} (hp : p ∈ l) : 0 ≤ p.1 ∧ p.1 + 2 ≤ p.2 ∧ p.2 < n := by
  obtain ⟨T, hT, hR⟩ := h.ex
  obtain ⟨a, b⟩ := p
  have := (hR a b).mp hp
  have t := tie_in hT this.1
  exact ⟨t.1, this.2.1, by show b < n; omega⟩
theorem cut_nocross {n : Int} {l : List (Int × Int)} (h : IsCut n l) {p q : Int × Int} (hp : p ∈ l) (hq : q ∈ l) : crossI p q = false := by
  obtain ⟨T, hT, hR⟩ := h.ex
  obtain ⟨a, b⟩ := p
  obtain ⟨c, d⟩ := q
  have tp := ((hR a b).mp hp).1
  have tq := ((hR c d).mp hq).1
  have ip := tie_in hT tp
  have iq := tie_in hT tq
  by_cases e : c = a ∨ c = b ∨ d = a ∨ d = b
  · exact crossI_t e
  · unfold crossI
    rw [if_neg e, decide_eq_false]
    dsimp only
    rw [Int.min_eq_left (by omega), Int.max_eq_right (by omega), dec_ne]
    intro hne
    by_cases h1 : a < c ∧ c < b
    · exact nocross hT tp tq h1.1 h1.2 (by omega)
    · exact nocross hT tq tp (a := c) (b := d) (by omega) (by omega) (by omega)
theorem turns_cross {n : Int} {l : List (Int × Int)} {p : Int × Int} {x y : Int} (h : Turns n l p x y) : crossI (x, y) p = true := by
  have := h.crs
  have := h.xy
  unfold crossI
  rw [if_neg (by dsimp only; omega), decide_eq_true]
  dsimp only
  rw [Int.min_eq_left (by omega), Int.max_eq_right (by omega), dec_ne]
  omega
theorem one_of {l : List (Int × Int)} {p : Int × Int} (hn : l.Nodup) (h : ∀ q, q ∈ l ↔ q = p) : l = [p] := by
  have : l.Perm [p] := (List.perm_ext_iff_of_nodup hn (by simp)).mpr fun q => by rw [h, List.mem_singleton]
  exact List.perm_singleton.mp this
theorem turns_fresh {n : Int} {l : List (Int × Int)} {p : Int × Int} {x y : Int} (h : Turns n l p x y) : ((turnL n l p).filter fun q => decide (q ∉ l)) = [(x, y)] := by
  refine one_of (h.isC.nd.filter _) fun q => ?_
  rw [List.mem_filter, decide_eq_true_eq, h.mem]
  constructor
  · rintro ⟨⟨h1, _⟩ | h1, h2⟩
    · exact absurd h1 h2
    · exact h1
  · rintro rfl
    exact ⟨.inr rfl, h.new⟩
theorem turns_old {n : Int} {l : List (Int × Int)} {p : Int × Int} {x y : Int} (h : Turns n l p x y) : p ∉ turnL n l p := fun hm => by
  have hc := h.crs
  rcases (h.mem p).mp hm with ⟨_, h2⟩ | h2
  · exact h2 rfl
  · rw [h2] at hc
    dsimp only at hc
    omega
theorem pr_comm (a b : Int) : pr a b = pr b a := by
  show (min a b, max a b) = (min b a, max b a)
  rw [Int.min_comm, Int.max_comm]
theorem pr_of_lt {a b : Int} (h : a < b) : pr a b = (a, b) := by
  show (min a b, max a b) = _
  rw [Int.min_eq_left (by omega), Int.max_eq_right (by omega)]
theorem turn_back {n : Int} {l : List (Int × Int)} {p : Int × Int} {x y : Int} (hc : IsCut n l) (hs : l.Pairwise le2) (hp : p ∈ l) (h : Turns n l p x y) : turnL n (turnL n l p) (x, y) = l := by
  have hxm : (x, y) ∈ turnL n l p := (h.mem _).mpr (.inr rfl)
  obtain ⟨x', y', h'⟩ := turns h.isC hxm
  obtain ⟨a, b⟩ := p
  have lt := cut_lt hc hp
  have hcr := h.crs
  dsimp only at lt hcr
  have hx : x ∈ besL (tiesS n l) n a b := by rw [h.bes]; simp
  have hy : y ∈ besL (tiesS n l) n a b := by rw [h.bes]; simp
  have sp : ∀ z, z ∈ besL (tiesS n l) n a b → pr a z ∈ tiesS n l ∧ pr b z ∈ tiesS n l := fun z hz => by
    have := (List.mem_filter.mp hz).2
    rw [Bool.and_eq_true, decide_eq_true_eq, decide_eq_true_eq] at this
    exact this
  have mv : ∀ q, q ∈ tiesS n l → q ≠ (a, b) → q ∈ tiesS n (turnL n l (a, b)) := fun q hq hne => by
    have := sort2_mem.mp hq
    refine sort2_mem.mpr ?_
    rcases List.mem_append.mp this with h1 | h1
    · exact List.mem_append.mpr (.inl h1)
    · exact List.mem_append.mpr (.inr ((h.mem q).mpr (.inl ⟨h1, hne⟩)))
  have ne1 : ∀ z, z ≠ a → z ≠ b → pr a z ≠ (a, b) ∧ pr b z ≠ (a, b) := fun z h1 h2 => by
    constructor
    · intro e
      have e1 : min a z = a := congrArg Prod.fst e
      have e2 : max a z = b := congrArg Prod.snd e
      omega
    · intro e
      have e1 : min b z = a := congrArg Prod.fst e
      have e2 : max b z = b := congrArg Prod.snd e
      omega
  have nx := ne1 x (by omega) (by omega)
  have ny := ne1 y (by omega) (by omega)
  have ax := mv _ (sp x hx).1 nx.1
  have bx := mv _ (sp x hx).2 nx.2
  have ay := mv _ (sp y hy).1 ny.1
  have bx' := mv _ (sp y hy).2 ny.2
  have ha : a ∈ besL (tiesS n (turnL n l (a, b))) n x y := by
    refine List.mem_filter.mpr ⟨mem_rng.mpr ⟨lt.1, by omega⟩, ?_⟩
    rw [pr_comm x a, pr_comm y a, decide_eq_true ax, decide_eq_true ay]; rfl
  have hb : b ∈ besL (tiesS n (turnL n l (a, b))) n x y := by
    refine List.mem_filter.mpr ⟨mem_rng.mpr ⟨by omega, lt.2.2⟩, ?_⟩
    rw [pr_comm x b, pr_comm y b, decide_eq_true bx, decide_eq_true bx']; rfl
  rw [h'.bes] at ha hb
  have hxy' := h'.xy
  simp only [List.mem_cons, List.not_mem_nil, or_false] at ha hb
  have e1 : x' = a := by omega
  have e2 : y' = b := by omega
  subst e1; subst e2
  refine list2_ext h'.srt hs h'.isC.nd hc.nd fun q => ?_
  rw [h'.mem, h.mem]
  constructor
  · rintro (⟨⟨h1, _⟩ | h1, h2⟩ | h1)
    · exact h1
    · exact absurd h1 h2
    · rw [h1]; exact hp
  · intro hq
    by_cases e : q = (x', y')
    · exact .inr e
    · refine .inl ⟨.inl ⟨hq, e⟩, fun e2 => h.new (e2 ▸ hq)⟩

def TupAt (H : Hp) (x : V) (ns : List Int) : Prop := ∃ t, x = V.ref t ∧ H t = some (.tup (ns.map V.int))
theorem PrAt.tup {H : Hp} {x : V} {p : Int × Int} (h : PrAt K H x p) : TupAt H x [p.1, p.2] := h
def sp_tuple : Sp := fun vs H Q _ => ∃ (x : V) (ns : List Int), vs = [x, .int (ns.length : Int)] ∧ TupAt H x ns ∧ ns.length ≤ 100 ∧ Q (.bl true) H
theorem ok__law_tuple (T : Env K mg) : FnOk P w K mg base CX0 2 T.a__law_tuple T.fd__law_tuple ["_law_found", "_law_many_here"] sp_tuple := by
  refine T.F__law_tuple.ok sc__law_tuple (fun vs H Q E h => ?_) (fun cdv A outer s H vs Q E hr h => ?_)
  · obtain ⟨x, ns, rfl, _⟩ := h
    rfl
  · obtain ⟨x, ns, rfl, hx, hl, q⟩ := h
    refine ⟨_, (pss_cons (ps_if (PW.pt (pw_or (pt_not (pt_val (pe_callB call_isi (by rfl) T.m_isinstance (by decide +kernel) (pa_cons (pv 0) (pa_cons (pe_bltn (v := .ty "tuple") (u := .type "tuple") (by rfl) T.m_tuple (by decide +kernel) rfl) pa_nil))))) (pw_or1 (pt_cmpR op_ne (pe_callB call_len_seq (by rfl) T.m_len (by decide +kernel) (pa_cons (pv 0) pa_nil)) (pv 1) (nomark _)))))
 (pss_one (ps_ret pe_bl))
 pss_nil)
 (pss_cons (ps_for PassesOwn.never rfl (pi_tup (pv 0)) (pg_name (i := 2) sc__law_tuple.nd rfl (.inl rfl))
 (pss_one (ps_if (pt_not (pt_val (pe_call (ok__law_whole T) (hr.mono (by decide)) (by rfl) T.g__law_whole T.F__law_whole.kp T.b__law_whole .nil pass0 (pa_cons (pv 2) pa_nil))))
 (pss_one (ps_ret pe_bl))
 pss_nil)))
 (pss_one (ps_ret pe_bl)))), ?_⟩
    obtain ⟨p, rfl, hp⟩ := hx
    have hS : SqT K H p (ns.map V.int) := .inl (.inl hp)
    refine ⟨_, rfl, _, _, _, _, _, rfl, .ty _, .base (.tup hp), kit_ty (by decide +kernel), true, rfl, ?_⟩
    show if false = true then _ else _
    rw [if_neg Bool.false_ne_true]
    refine ⟨_, rfl, _, _, rfl, .inr hS, _, rfl, rfl, _, rfl, ?_⟩
    have el : V.int ((ns.map V.int).length : Int) = V.int (ns.length : Int) := by rw [List.length_map]
    refine iteNS el ?_
    refine ⟨_, rfl, p, rfl, ⟨_, hS⟩, for_tup (K := K) (a := p) (xs := ns.map V.int) (fun i σ H' => H' = H ∧ ∃ z, σ = [some (.ref p), some (.int (ns.length : Int)), z]) ⟨rfl, _, rfl⟩ (fun i σ H' _ ⟨e, _⟩ => by rw [e]; exact hS) ?_ ?_⟩
    · rintro i v σ H' hi ⟨rfl, z, rfl⟩
      obtain ⟨n, rfl⟩ : ∃ n, v = .int n := by
        rw [List.getElem?_map] at hi
        cases e : ns[i]? with
        | none => rw [e] at hi; cases hi
        | some m => rw [e] at hi; exact ⟨m, (Option.some.inj hi).symm⟩
      refine ⟨_, rfl, _, rfl, true, rfl, iteF ?_⟩
      exact ⟨rfl, _, rfl⟩
    · rintro σ H' ⟨rfl, z, rfl⟩
      exact q

/-! ### the law's look at a told dict -/
def sp_dict (K : PySem.W.Frag) : Sp := fun vs H Q _ => ∃ (a b : Addr) (dom dom' : List (Int × Int)) (f : Int × Int → Int × Int), vs = [.ref a, .ref b] ∧ a ≠ b ∧ FD K H a dom f ∧ FD K H b dom' f ∧ (∀ p, p ∈ dom ↔ p ∈ dom') ∧
  (∀ p ∈ dom', Frac 4000 (f p)) ∧ dom'.length ≤ 100 ∧ ∀ H', Same H H' → Q (.bl true) H'
theorem ok__law_dict (T : Env K mg) : FnOk P w K mg base CX0 3 T.a__law_dict T.fd__law_dict ["_law_found", "_law_due_here"] (sp_dict K) := by
  refine T.F__law_dict.ok sc__law_dict (fun vs H Q E h => ?_) (fun cdv A outer s H vs Q E hr h => ?_)
  · obtain ⟨a, b, dom, dom', f, rfl, _⟩ := h
    rfl
  · obtain ⟨a, b, dom, dom', f, rfl, hab, hA, hB, hm, hF, hfew, q⟩ := h
    refine ⟨_, (pss_cons (ps_if (PW.pt (pw_or (pt_not (pt_val (pe_callB call_isi (by rfl) T.m_isinstance (by decide +kernel) (pa_cons (pv 0) (pa_cons (pe_bltn (v := .ty "dict") (u := .type "dict") (by rfl) T.m_dict (by decide +kernel) rfl) pa_nil))))) (pw_or1 (pt_cmpR op_ne (pe_callB call_lenT (by rfl) T.m_len (by decide +kernel) (pa_cons (pv 0) pa_nil)) (pe_callB call_lenT (by rfl) T.m_len (by decide +kernel) (pa_cons (pv 1) pa_nil)) (nomark _)))))
 (pss_one (ps_ret pe_bl))
 pss_nil)
 (pss_cons (ps_lock (ps_for PassesOwn.never rfl (pi_itemsT (pv 1)) (pg_tup rfl (pgs_cons (pg_name (i := 2) sc__law_dict.nd rfl (.inl rfl)) (pgs_cons (pg_name (i := 3) sc__law_dict.nd rfl (.inl rfl)) pgs_nil)))
 (pss_one (ps_if (PW.pt (pw_or (pt_cmp (pc_dnotin (hu_of hr) (pv 2) (pv 0))) (pw_or (pt_not (pt_val (pe_call (ok__law_part T) (hr.mono (by decide)) (by rfl) T.g__law_part T.F__law_part.kp T.b__law_part .nil pass0 (pa_cons (pe_dget (hu_of hr) (pv 0) (pv 2) (fun _ _ => rfl)) pa_nil)))) (pw_or1 (pt_cmpR (op_neP2 (by have h_ := hr.units; exact h_)) (pe_dget (hu_of hr) (pv 0) (pv 2) (fun _ _ => rfl)) (pv 3) (nomark _))))))
 (pss_one (ps_ret pe_bl))
 pss_nil))))
 (pss_cons (ps_lock (ps_for PassesOwn.never rfl (pi_keysMT (pv 0)) (pg_name (i := 2) sc__law_dict.nd rfl (.inl rfl))
 (pss_one (ps_if (pt_not (pt_val (pe_call (ok__law_tuple T) (hr.mono (by decide)) (by rfl) T.g__law_tuple T.F__law_tuple.kp T.b__law_tuple .nil pass0 (pa_cons (pv 2) (pa_cons pe_int pa_nil)))))
 (pss_one (ps_ret pe_bl))
 pss_nil))))
 (pss_one (ps_ret pe_bl))))), ?_⟩
    obtain ⟨⟨ka, ea, ra⟩, na, sa⟩ := hA
    obtain ⟨⟨kb, eb, rb⟩, nb, sb⟩ := hB
    have la := ra.length
    have lb := rb.length
    have ll := dom_len na nb hm
    refine ⟨_, rfl, _, _, _, _, _, rfl, .ty _, .base (.dT ea), kit_ty (by decide +kernel), true, rfl, ?_⟩
    show if false = true then _ else _
    rw [if_neg Bool.false_ne_true]
    refine ⟨_, rfl, a, ka, rfl, ea, _, rfl, b, kb, rfl, eb, rfl, _, rfl, iteNS (by rw [la, lb, ll]) ?_⟩
    refine ⟨b, _, eb, True.intro, fun od => ?_⟩
    refine ⟨_, rfl, b, od, kb, rfl, upd_same, for_itemsT (fun i σ H' => ∃ y z, σ = [some (.ref a), some (.ref b), y, z] ∧ Same (upd H b (.frz od (.dT kb))) H') ⟨_, _, rfl, Same.refl _⟩ (fun i σ H' _ ⟨_, _, _, s⟩ => s _ _ upd_same) ?_ ?_⟩
    · rintro i k v u t σ H' hk ⟨y, z, rfl, s1⟩ ht hu
      have eA : (upd H b (.frz od (.dT kb))) a = some (.dT ka) := by rw [upd_ne hab]; exact ea
      have s2 : Same H' (upd H' t (.tup [.ref u, v])) := same_new ht
      have s3 := s1.trans s2
      obtain ⟨p, hp, e1, e2⟩ := rb.at hk
      have hpm : p ∈ dom' := List.mem_of_getElem? hp
      have e1 : k = pk p := e1
      subst e1
      obtain ⟨va, g1, g2⟩ := Ents.get ra ((hm p).mpr hpm)
      have fp := hF p hpm
      have tS : TupS H (upd H b (.frz od (.dT kb))) := fun w ys e => by
        rw [upd_ne (ne_of e eb (fun z => nomatch z))]
        exact e
      have tS2 := tS.trans (TupS.of s3)
      obtain ⟨wa, rfl, ga⟩ := g2
      obtain ⟨wb, rfl, gb⟩ := e2
      have ga := tS2 _ _ ga
      have gb := tS2 _ _ gb
      have hu3 := s2 _ _ hu
      have ht3 : (upd H' t (.tup [.ref u, .ref wb])) t = some (.tup [.ref u, .ref wb]) := upd_same
      have eA3 := s3 _ _ eA
      generalize upd H' t (.tup [.ref u, .ref wb]) = H3 at *
      have dg : DGet H3 a (.ref u) (some (.ref wa)) := by rw [← g1]; exact DGet.t eA3 hu3
      refine ⟨t, _, rfl, .inl (.inl ht3), rfl, _, _, rfl, _, _, rfl, rfl, ?_⟩
      refine ⟨_, rfl, _, rfl, a, _, rfl, dg, _, rfl, iteF ?_⟩
      refine ⟨_, rfl, _, rfl, a, _, rfl, dg, wa, _, _, rfl, ga, fp.low, fp.log (by decide), fun H4 s4 => ⟨true, rfl, iteF ?_⟩⟩
      refine ⟨_, rfl, _, rfl, a, _, rfl, (by rw [← g1]; exact DGet.t (s4 _ _ eA3) (s4 _ _ hu3)), _, rfl, f p, f p, ⟨wa, rfl, s4 _ _ ga⟩, ⟨wb, rfl, s4 _ _ gb⟩, _, rfl, ?_⟩
      show if (!decide (f p = f p)) = true then _ else _
      rw [decide_eq_true rfl]
      refine iteF ?_
      exact ⟨_, _, rfl, s3.trans s4⟩
    · rintro σ H' ⟨y, z, rfl, s1⟩
      refine ⟨s1 _ _ upd_same, ?_⟩
      have s2 := Same.unlock eb s1
      have eA2 := s2 _ _ ea
      have eB2 := s2 _ _ eb
      have tS2 := TupS.of s2
      generalize upd H' b (.dT kb) = H2 at *
      refine ⟨a, _, eA2, True.intro, fun oa => ?_⟩
      refine ⟨_, rfl, a, oa, ka, rfl, upd_same, for_keysT (fun i σ H' => ∃ y z, σ = [some (.ref a), some (.ref b), y, z] ∧ Same (upd H2 a (.frz oa (.dT ka))) H') ⟨_, _, rfl, Same.refl _⟩ (fun i σ H' _ ⟨_, _, _, s⟩ => s _ _ upd_same) ?_ ?_⟩
      · rintro i k v u σ H3 hk ⟨y, z, rfl, s3⟩ hu
        obtain ⟨p, hp, e1, _⟩ := ra.at hk
        have e1 : k = pk p := e1
        subst e1
        refine ⟨_, rfl, V.ref u, [p.1, p.2], rfl, ⟨u, rfl, hu⟩, (by show 2 ≤ 100; decide), true, rfl, iteF ?_⟩
        exact ⟨_, _, rfl, s3⟩
      · rintro σ H3 ⟨y, z, rfl, s3⟩
        refine ⟨s3 _ _ upd_same, ?_⟩
        exact q _ (s2.trans (Same.unlock eA2 s3))

/-! ### the law's lengths for the ties -/
theorem perm_of_sub {α : Type} [BEq α] [LawfulBEq α] : ∀ (l m : List α), l.Nodup → (∀ x ∈ l, x ∈ m) → m.length ≤ l.length → m.Perm l
  | [], m, _, _, h => by
    have : m = [] := List.length_eq_zero_iff.mp (Nat.le_zero.mp h)
    rw [this]
  | x :: l, m, hn, hs, h => by
    have hx : x ∈ m := hs x (by simp)
    have hnx := List.nodup_cons.mp hn
    have ih := perm_of_sub l (m.erase x) hnx.2 (fun y hy => (List.mem_erase_of_ne (fun e => hnx.1 (by rw [e] at hy; exact hy))).mpr (hs y (List.mem_cons_of_mem _ hy))) (by
      rw [List.length_erase_of_mem hx]
      rw [List.length_cons] at h
      omega)
    exact (List.perm_cons_erase hx).trans (ih.cons x)

theorem mod_apart {i j s L : Nat} (h : j < i) (hi : i < L) : (i + s) % L ≠ (j + s) % L := fun e => by
  have h1 := Nat.sub_mod_eq_zero_of_mod_eq e
  rw [show i + s - (j + s) = i - j by omega, Nat.mod_eq_of_lt (by omega)] at h1
  omega
theorem nodup_at2 {α : Type} {l : List α} (h : l.Nodup) {i j : Nat} {x : α} (hi : l[i]? = some x) (hj : l[j]? = some x) : i = j := nodup_at h hi hj
def rotK (tl : List (Int × Int)) (s j : Nat) : Int × Int := tl.getD ((j + s) % tl.length) (0, 0)
theorem rotK_at {tl : List (Int × Int)} (h : 0 < tl.length) (s j : Nat) : tl[(j + s) % tl.length]? = some (rotK tl s j) := by
  have hl : (j + s) % tl.length < tl.length := Nat.mod_lt _ h
  unfold rotK
  rw [List.getD_eq_getElem?_getD, List.getElem?_eq_getElem hl]
  rfl
theorem rotK_mem {tl : List (Int × Int)} (h : 0 < tl.length) (s j : Nat) : rotK tl s j ∈ tl := List.mem_of_getElem? (rotK_at h s j)
theorem rotK_new {tl : List (Int × Int)} (hn : tl.Nodup) {s i : Nat} (hi : i < tl.length) : rotK tl s i ∉ (List.range i).map (rotK tl s) := fun hm => by
  obtain ⟨j, hj, e⟩ := List.mem_map.mp hm
  rw [List.mem_range] at hj
  have h0 : 0 < tl.length := by omega
  have a := rotK_at h0 s i
  rw [← e] at a
  exact mod_apart (s := s) hj hi (nodup_at hn a (rotK_at h0 s j))
def sp_sized (K : PySem.W.Frag) : Sp := fun vs H Q _ => ∃ (t p : Addr) (zs : List V) (tl : List (Int × Int)) (rs : List Int), vs = [.ref t, .ref p] ∧ H t = some (.lst zs) ∧ PrL K H zs tl ∧ SqL K H p (rs.map V.int) ∧ rowOk rs ∧
  tl.Nodup ∧ (∀ p ∈ tl, smallP p) ∧ 0 < tl.length ∧ tl.length ≤ rs.length ∧ tl.length ≤ 60 ∧
  ∀ H' d dom f, Same H H' → H d = none → FD K H' d dom f → (∀ p, p ∈ dom ↔ p ∈ tl) → (∀ p, p ∈ tl → Frac 10 (f p)) → Q (.ref d) H'
theorem ok__law_sized (T : Env K mg) : FnOk P w K mg base CX0 3 T.a__law_sized T.fd__law_sized ["_law_all_ties", "_law_row"] (sp_sized K) := by
  refine T.F__law_sized.ok sc__law_sized (fun vs H Q E h => ?_) (fun cdv A outer s H vs Q E hr h => ?_)
  · obtain ⟨t, p, zs, tl, rs, rfl, _⟩ := h
    rfl
  · obtain ⟨t, p, zs, tl, rs, rfl, ht, hZ, hR, hro, hn, hs, h0, hrl, h60, q⟩ := h
    refine ⟨_, (pss_cons (ps_set (i := 2) sc__law_sized.nd rfl (.inl rfl) pe_dnewT)
 (pss_cons (ps_for PassesOwn.never rfl (pi_range1 (by rfl) T.m_range (pa_cons (pe_callB call_len_seq (by rfl) T.m_len (by decide +kernel) (pa_cons (pv 0) pa_nil)) pa_nil)) (pg_name (i := 3) sc__law_sized.nd rfl (.inl rfl))
 (pss_cons (ps_set (i := 4) sc__law_sized.nd rfl (.inl rfl) (pe_op op_mod (pe_op op_add (pv 3) (pe_op op_fdiv (pe_ix ix_list (pv 1) pe_int (fun _ _ => rfl)) pe_int)) (pe_callB call_len_seq (by rfl) T.m_len (by decide +kernel) (pa_cons (pv 0) pa_nil))))
 (pss_one (ps_dput (hu_of hr) (pv 2) (pe_ix ix_list (pv 0) (pv 4) (fun _ _ => rfl)) (pe_call (ok__law_size T) (hr.mono (by decide)) (by rfl) T.g__law_size T.F__law_size.kp T.b__law_size .nil pass0 (pa_cons (pe_ix ix_list (pv 1) (pv 4) (fun _ _ => rfl)) pa_nil)) rfl))))
 (pss_one (ps_ret (pv 2))))), ?_⟩
    have hzl := hZ.length
    obtain ⟨r0, m0, a0⟩ := int_at (rs := rs) (k := 0) (by omega)
    have b0 := (hro r0 m0).1
    obtain ⟨s0, es0⟩ : ∃ s0 : Nat, r0 / 17 = (s0 : Int) := ⟨(r0 / 17).toNat, by omega⟩
    intro D hD
    have s1 : Same H _ := same_new (o := .dT []) hD
    refine ⟨_, rfl, _, _, rfl, .inl (.inl (.inl (s1 _ _ ht))), _, rfl, by omega, by omega, for_range (lo := 0) (n := ((zs.length : Nat) : Int).toNat) (fun i σ H' => ∃ y z, σ = [some (.ref t), some (.ref p), some (.ref D), y, z] ∧ Same H H' ∧ ∃ f, FD K H' D ((List.range i).map (rotK tl s0)) f ∧ ∀ q ∈ (List.range i).map (rotK tl s0), Frac 10 (f q)) ⟨_, _, rfl, s1, fun _ => (0, 1), FD.nil upd_same, fun _ h => nomatch h⟩ ?_ ?_⟩
    · rintro i σ H' hi ⟨y, z, rfl, s2, f, hF, hFr⟩
      have hi' : i < tl.length := by omega
      have ex := rotK_at h0 s0 i
      obtain ⟨u, eu, hu⟩ := hZ.at' ex
      obtain ⟨u, rfl, hu⟩ := hu
      have eat : (0 + (i : Int) + r0 / 17) % (zs.length : Int) = (((i + s0) % tl.length : Nat) : Int) := by
        rw [es0, Int.zero_add, hzl, Int.natCast_emod, Int.natCast_add]
      have hrl2 : (i + s0) % tl.length < rs.length := Nat.lt_of_lt_of_le (Nat.mod_lt _ h0) hrl
      obtain ⟨rv, mv, av⟩ := int_at hrl2
      refine ⟨_, rfl, _, rfl, p, _, _, _, rfl, rfl, s2.seq hR, a0, _, _, rfl, rfl, ⟨by decide, by decide⟩, _, _, rfl, rfl, ?_⟩
      refine ⟨_, rfl, t, zs, rfl, .inl (.inl (.inl (s2 _ _ ht))), _, _, rfl, rfl, (by show (0 : Int) < _; omega), ?_⟩
      have eu2 : atI zs ((0 + (i : Int) + r0 / 17) % (zs.length : Int)) = some (.ref u) := by rw [eat]; exact atI_nat eu
      rw [← eat] at av
      refine ⟨_, rfl, _, rfl, p, _, _, _, rfl, rfl, s2.seq hR, av, rv, rfl, fun H3 v x s3 hv hx => ?_⟩
      have s23 := s2.trans s3
      have hF3 := hF.mono s3
      obtain ⟨⟨kvs, e1, e2⟩, nd, sm⟩ := hF3
      refine ⟨_, rfl, _, rfl, _, rfl, t, _, _, _, rfl, rfl, .inl (.inl (s23 _ _ ht)), eu2, D, _, rfl, DPut.t e1 (key_pk (s23 _ _ hu)) ?_, ?_⟩
      · have := e2.length
        rw [List.length_map, List.length_range] at this
        exact small200' (by omega)
      refine ⟨_, _, rfl, same_put s23 hD, setF f (rotK tl s0 i) x, ?_, ?_⟩
      · rw [List.range_succ, List.map_append]
        exact FD.put nd sm e1 e2 (rotK_new hn hi') (hs _ (rotK_mem h0 s0 i)) hv
      · intro q hq
        unfold setF
        split
        · exact hx
        · next ne =>
          rw [List.range_succ, List.map_append] at hq
          rcases List.mem_append.mp hq with z | z
          · exact hFr q z
          · exact absurd (List.mem_singleton.mp z) ne
    · rintro σ H' ⟨y, z, rfl, s2, f, hF, hFr⟩
      have el : ((zs.length : Nat) : Int).toNat = tl.length := by omega
      rw [el] at hF hFr
      have hsub : ∀ q ∈ (List.range tl.length).map (rotK tl s0), q ∈ tl := fun q hq => by
        obtain ⟨j, _, e⟩ := List.mem_map.mp hq
        rw [← e]
        exact rotK_mem h0 s0 j
      have hp := perm_of_sub _ _ hF.nd hsub (by rw [List.length_map, List.length_range]; exact Nat.le_refl _)
      exact ⟨_, rfl, q H' D _ f s2 hD hF (fun q => hp.symm.mem_iff) (fun q hq => hFr q (hp.mem_iff.mp hq))⟩

/-! ### the ratio of a rope -/
/-- the post between, the post beyond -/
def mOf (p : Int × Int) (x y : Int) : Int := if p.1 < x ∧ x < p.2 then x else y
def zOf (p : Int × Int) (x y : Int) : Int := if p.1 < x ∧ x < p.2 then y else x
def rateV (f : Int × Int → Int × Int) (p : Int × Int) (m z : Int) : Int × Int := divV (mulV (f (pr p.1 m)) (f (pr p.2 z))) (mulV (f (pr m p.2)) (f (pr z p.1)))
def rateL (n : Int) (l : List (Int × Int)) (f : Int × Int → Int × Int) (p : Int × Int) : Int × Int := match besL (tiesS n l) n p.1 p.2 with
  | [x, y] => rateV f p (mOf p x y) (zOf p x y)
  | _ => (0, 1)
theorem rateL_at {n : Int} {l : List (Int × Int)} {f : Int × Int → Int × Int} {p : Int × Int} {x y : Int} (h : Turns n l p x y) : rateL n l f p = rateV f p (mOf p x y) (zOf p x y) := by
  unfold rateL
  rw [h.bes]
theorem bes_ties {t : List (Int × Int)} {n a b : Int} {x : Int} (h : x ∈ besL t n a b) : pr a x ∈ t ∧ pr b x ∈ t := by
  unfold besL at h
  have := (List.mem_filter.mp h).2
  simp only [Bool.and_eq_true, decide_eq_true_eq] at this
  exact this

structure Around (n : Int) (l : List (Int × Int)) (p : Int × Int) (m z : Int) : Prop where
  lm : pr p.1 m ∈ tiesS n l
  hm : pr p.2 m ∈ tiesS n l
  lz : pr p.1 z ∈ tiesS n l
  hz : pr p.2 z ∈ tiesS n l
  m0 : p.1 < m
  m1 : m < p.2
  out : z < p.1 ∨ p.2 < z
theorem round {n : Int} {l : List (Int × Int)} {p : Int × Int} {x y : Int} (h : Turns n l p x y) : Around n l p (mOf p x y) (zOf p x y) := by
  have hx := bes_ties (t := tiesS n l) (n := n) (a := p.1) (b := p.2) (x := x) (by rw [h.bes]; simp)
  have hy := bes_ties (t := tiesS n l) (n := n) (a := p.1) (b := p.2) (x := y) (by rw [h.bes]; simp)
  have hc := h.crs
  unfold mOf zOf
  by_cases g : p.1 < x ∧ x < p.2
  · rw [if_pos g, if_pos g]
    exact ⟨hx.1, hx.2, hy.1, hy.2, g.1, g.2, by omega⟩
  · rw [if_neg g, if_neg g]
    exact ⟨hy.1, hy.2, hx.1, hx.2, by omega, by omega, by omega⟩
/-- a tuple of two pairs -/
def TwoAt (K : PySem.W.Frag) (H : Hp) (v : V) (p q : Int × Int) : Prop := ∃ (t : Addr) (u w : V), v = .ref t ∧ H t = some (.tup [u, w]) ∧ PrAt K H u p ∧ PrAt K H w q
theorem TwoAt.mono {H H' : Hp} {v : V} {p q : Int × Int} (s : Same H H') (h : TwoAt K H v p q) : TwoAt K H' v p q := by
  obtain ⟨t, u, w, e, ht, hu, hw⟩ := h
  exact ⟨t, u, w, e, s _ _ ht, hu.mono s, hw.mono s⟩
def sp_round (K : PySem.W.Frag) (C : Addr) : Sp := fun vs H Q E => ∃ (n : Int) (c : Addr) (xs : List V) (l : List (Int × Int)) (a b : Int), vs = [.int n, .ref c, .int a, .int b] ∧ 3 ≤ n ∧ n ≤ 12 ∧ H c = some (.lst xs) ∧ PrL K H xs l ∧ l.length ≤ 100 ∧ IsCut n l ∧
  (pr a b ∉ l → ∀ H', Same H H' → E (.ref C) none H') ∧
  (pr a b ∈ l → ∀ x y, Turns n l (pr a b) x y → ∀ H' q u w, Same H H' → H' q = some (.tup [u, w]) → TwoAt K H' u (pr (pr a b).1 (mOf (pr a b) x y)) (pr (pr a b).2 (zOf (pr a b) x y)) → TwoAt K H' w (pr (mOf (pr a b) x y) (pr a b).2) (pr (zOf (pr a b) x y) (pr a b).1) → Q (.ref q) H')
theorem ok_ties_round (T : Env K mg) : FnOk P w K mg base (L2.CX P w) 5 T.a_ties_round T.fd_ties_round ["n", "cut", "a", "b"] (sp_round K T.C_NoRope) := by
  refine T.F_ties_round.okX sc_ties_round (fun vs H Q E h => ?_) (fun cdv A outer s H vs Q E hr h => ?_)
  · obtain ⟨n, c, xs, l, a, b, rfl, _⟩ := h
    rfl
  · obtain ⟨n, c, xs, l, a, b, rfl, h3, h12, hc, hL, hl, hC, k0, k1⟩ := h
    refine ⟨_, (pss_cons (ps_asg (pe_call (ok_pair_of T) (hr.mono (by decide)) (by rfl) T.g_pair_of T.F_pair_of.kp T.b_pair_of .nil pass0 (pa_cons (pv 2) (pa_cons (pv 3) pa_nil))) (pg_tup rfl (pgs_cons (pg_name (i := 4) sc_ties_round.nd rfl (.inl rfl)) (pgs_cons (pg_name (i := 5) sc_ties_round.nd rfl (.inl rfl)) pgs_nil))))
 (pss_cons (ps_asg (pe_callS (ok_new_rope T) (hr.mono (by decide)) (by rfl) T.g_new_rope T.F_new_rope.kp T.b_new_rope (fun σ => passAt (takes_of rfl rfl rfl rfl) σ) (pa_cons (pv 0) (pa_cons (pv 1) (pa_cons (pv 2) (pa_cons (pv 3) pa_nil))))) (pg_tup rfl (pgs_cons (pg_name (i := 6) sc_ties_round.nd rfl (.inl rfl)) (pgs_cons (pg_name (i := 7) sc_ties_round.nd rfl (.inl rfl)) pgs_nil))))
 (pss_cons (ps_asg (pe_ifExp (pt_chain op_lt op_lt (pv 4) (pv 6) (pv 5)) (pe_tup (pa_cons (pv 6) (pa_cons (pv 7) pa_nil))) (pe_tup (pa_cons (pv 7) (pa_cons (pv 6) pa_nil)))) (pg_tup rfl (pgs_cons (pg_name (i := 8) sc_ties_round.nd rfl (.inl rfl)) (pgs_cons (pg_name (i := 9) sc_ties_round.nd rfl (.inl rfl)) pgs_nil))))
 (pss_cons (ps_set (i := 10) sc_ties_round.nd rfl (.inl rfl) (pe_tup (pa_cons (pe_call (ok_pair_of T) (hr.mono (by decide)) (by rfl) T.g_pair_of T.F_pair_of.kp T.b_pair_of .nil pass0 (pa_cons (pv 4) (pa_cons (pv 8) pa_nil))) (pa_cons (pe_call (ok_pair_of T) (hr.mono (by decide)) (by rfl) T.g_pair_of T.F_pair_of.kp T.b_pair_of .nil pass0 (pa_cons (pv 5) (pa_cons (pv 9) pa_nil))) pa_nil))))
 (pss_cons (ps_set (i := 11) sc_ties_round.nd rfl (.inl rfl) (pe_tup (pa_cons (pe_call (ok_pair_of T) (hr.mono (by decide)) (by rfl) T.g_pair_of T.F_pair_of.kp T.b_pair_of .nil pass0 (pa_cons (pv 8) (pa_cons (pv 5) pa_nil))) (pa_cons (pe_call (ok_pair_of T) (hr.mono (by decide)) (by rfl) T.g_pair_of T.F_pair_of.kp T.b_pair_of .nil pass0 (pa_cons (pv 9) (pa_cons (pv 4) pa_nil))) pa_nil))))
 (pss_one (ps_ret (pe_tup (pa_cons (pv 10) (pa_cons (pv 11) pa_nil)))))))))), ?_⟩
    refine ⟨_, rfl, _, rfl, a, b, rfl, fun t ht => ?_⟩
    have s1 := same_new (o := .tup [.int (pr a b).1, .int (pr a b).2]) ht
    have ht2 : (upd H t (.tup [.int (pr a b).1, .int (pr a b).2])) t = some (.tup [.int (pr a b).1, .int (pr a b).2]) := upd_same
    generalize upd H t (.tup [.int (pr a b).1, .int (pr a b).2]) = H2 at *
    refine ⟨t, _, rfl, .inl (.inl ht2), rfl, _, _, rfl, _, _, rfl, rfl, ?_⟩
    refine ⟨_, rfl, _, rfl, _, rfl, _, rfl, n, c, xs, l, a, b, rfl, h3, h12, s1 _ _ hc, hL.mono s1, hl, hC, fun hn H' s2 => k0 hn H' (s1.trans s2), fun hm x y hT H3 q s2 nq hq => ?_⟩
    have s12 := s1.trans s2
    refine ⟨q, _, rfl, .inl (.inl hq), rfl, _, _, rfl, _, _, rfl, rfl, ?_⟩
    have k1 := k1 hm x y hT
    have hAr := round hT
    generalize pr a b = p at *
    refine ⟨_, rfl, _, rfl, _, _, rfl, rfl, _, rfl, ite2 (fun g0 => ?_) (fun g0 => ?_)⟩
    · have g0 := of_decide_eq_true g0
      refine ⟨_, rfl, _, _, rfl, rfl, _, rfl, ite2 (fun g1 => ?_) (fun g1 => ?_)⟩
      · have g1 := of_decide_eq_true g1
        have em : mOf p x y = x := if_pos ⟨g0, g1⟩
        have ez : zOf p x y = y := if_pos ⟨g0, g1⟩
        rw [em, ez] at k1
        refine ⟨_, rfl, _, rfl, small200 (by show 2 ≤ 200; decide), fun t3 ht3 => ?_⟩
        have s3 := same_new (o := .tup [.int x, .int y]) ht3
        have ht4 : (upd H3 t3 (.tup [.int x, .int y])) t3 = some (.tup [.int x, .int y]) := upd_same
        generalize upd H3 t3 (.tup [.int x, .int y]) = H4 at *
        refine ⟨t3, _, rfl, .inl (.inl ht4), rfl, _, _, rfl, _, _, rfl, rfl, ?_⟩
        refine ⟨_, rfl, _, rfl, p.1, x, rfl, fun u1 hu1 => ?_⟩
        have s4 := same_new (o := .tup [.int (pr p.1 x).1, .int (pr p.1 x).2]) hu1
        have hu2 : (upd H4 u1 (.tup [.int (pr p.1 x).1, .int (pr p.1 x).2])) u1 = some (.tup [.int (pr p.1 x).1, .int (pr p.1 x).2]) := upd_same
        generalize upd H4 u1 (.tup [.int (pr p.1 x).1, .int (pr p.1 x).2]) = H5 at *
        refine ⟨_, rfl, _, rfl, p.2, y, rfl, fun u3 hu3 => ?_⟩
        have s5 := same_new (o := (.tup [.int (pr p.2 y).1, .int (pr p.2 y).2])) hu3
        have hu4 : (upd H5 u3 (.tup [.int (pr p.2 y).1, .int (pr p.2 y).2])) u3 = some (.tup [.int (pr p.2 y).1, .int (pr p.2 y).2]) := upd_same
        generalize upd H5 u3 (.tup [.int (pr p.2 y).1, .int (pr p.2 y).2]) = H6 at *
        refine ⟨small200 (by show 2 ≤ 200; decide), fun u5 hu5 => ?_⟩
        have s6 := same_new (o := (.tup [.ref u1, .ref u3])) hu5
        have hu6 : (upd H6 u5 (.tup [.ref u1, .ref u3])) u5 = some (.tup [.ref u1, .ref u3]) := upd_same
        generalize upd H6 u5 (.tup [.ref u1, .ref u3]) = H7 at *
        refine ⟨_, rfl, _, rfl, x, p.2, rfl, fun u7 hu7 => ?_⟩
        have s7 := same_new (o := (.tup [.int (pr x p.2).1, .int (pr x p.2).2])) hu7
        have hu8 : (upd H7 u7 (.tup [.int (pr x p.2).1, .int (pr x p.2).2])) u7 = some (.tup [.int (pr x p.2).1, .int (pr x p.2).2]) := upd_same
        generalize upd H7 u7 (.tup [.int (pr x p.2).1, .int (pr x p.2).2]) = H8 at *
        refine ⟨_, rfl, _, rfl, y, p.1, rfl, fun u9 hu9 => ?_⟩
        have s8 := same_new (o := (.tup [.int (pr y p.1).1, .int (pr y p.1).2])) hu9
        have hu10 : (upd H8 u9 (.tup [.int (pr y p.1).1, .int (pr y p.1).2])) u9 = some (.tup [.int (pr y p.1).1, .int (pr y p.1).2]) := upd_same
        generalize upd H8 u9 (.tup [.int (pr y p.1).1, .int (pr y p.1).2]) = H9 at *
        refine ⟨small200 (by show 2 ≤ 200; decide), fun u11 hu11 => ?_⟩
        have s9 := same_new (o := (.tup [.ref u7, .ref u9])) hu11
        have hu12 : (upd H9 u11 (.tup [.ref u7, .ref u9])) u11 = some (.tup [.ref u7, .ref u9]) := upd_same
        generalize upd H9 u11 (.tup [.ref u7, .ref u9]) = HA at *
        refine ⟨_, rfl, _, rfl, small200 (by show 2 ≤ 200; decide), fun u13 hu13 => ?_⟩
        have sB := same_new (o := .tup [.ref u5, .ref u11]) hu13
        have s6B := ((s7.trans s8).trans s9).trans sB
        refine k1 _ u13 (.ref u5) (.ref u11) (s12.trans ((((s3.trans s4).trans s5).trans s6).trans s6B)) upd_same ⟨u5, .ref u1, .ref u3, rfl, s6B _ _ hu6, ⟨u1, rfl, ((s5.trans s6).trans s6B) _ _ hu2⟩, ⟨u3, rfl, (s6.trans s6B) _ _ hu4⟩⟩ ⟨u11, .ref u7, .ref u9, rfl, sB _ _ hu12, ⟨u7, rfl, ((s8.trans s9).trans sB) _ _ hu8⟩, ⟨u9, rfl, (s9.trans sB) _ _ hu10⟩⟩
      · have g1 := nd g1
        have em : mOf p x y = y := if_neg fun h => g1 h.2
        have ez : zOf p x y = x := if_neg fun h => g1 h.2
        rw [em, ez] at k1
        refine ⟨_, rfl, _, rfl, small200 (by show 2 ≤ 200; decide), fun t3 ht3 => ?_⟩
        have s3 := same_new (o := .tup [.int y, .int x]) ht3
        have ht4 : (upd H3 t3 (.tup [.int y, .int x])) t3 = some (.tup [.int y, .int x]) := upd_same
        generalize upd H3 t3 (.tup [.int y, .int x]) = H4 at *
        refine ⟨t3, _, rfl, .inl (.inl ht4), rfl, _, _, rfl, _, _, rfl, rfl, ?_⟩
        refine ⟨_, rfl, _, rfl, p.1, y, rfl, fun u1 hu1 => ?_⟩
        have s4 := same_new (o := .tup [.int (pr p.1 y).1, .int (pr p.1 y).2]) hu1
        have hu2 : (upd H4 u1 (.tup [.int (pr p.1 y).1, .int (pr p.1 y).2])) u1 = some (.tup [.int (pr p.1 y).1, .int (pr p.1 y).2]) := upd_same
        generalize upd H4 u1 (.tup [.int (pr p.1 y).1, .int (pr p.1 y).2]) = H5 at *
        refine ⟨_, rfl, _, rfl, p.2, x, rfl, fun u3 hu3 => ?_⟩
        have s5 := same_new (o := (.tup [.int (pr p.2 x).1, .int (pr p.2 x).2])) hu3
        have hu4 : (upd H5 u3 (.tup [.int (pr p.2 x).1, .int (pr p.2 x).2])) u3 = some (.tup [.int (pr p.2 x).1, .int (pr p.2 x).2]) := upd_same
        generalize upd H5 u3 (.tup [.int (pr p.2 x).1, .int (pr p.2 x).2]) = H6 at *
        refine ⟨small200 (by show 2 ≤ 200; decide), fun u5 hu5 => ?_⟩
        have s6 := same_new (o := (.tup [.ref u1, .ref u3])) hu5
        have hu6 : (upd H6 u5 (.tup [.ref u1, .ref u3])) u5 = some (.tup [.ref u1, .ref u3]) := upd_same
        generalize upd H6 u5 (.tup [.ref u1, .ref u3]) = H7 at *
        refine ⟨_, rfl, _, rfl, y, p.2, rfl, fun u7 hu7 => ?_⟩
        have s7 := same_new (o := (.tup [.int (pr y p.2).1, .int (pr y p.2).2])) hu7
        have hu8 : (upd H7 u7 (.tup [.int (pr y p.2).1, .int (pr y p.2).2])) u7 = some (.tup [.int (pr y p.2).1, .int (pr y p.2).2]) := upd_same
        generalize upd H7 u7 (.tup [.int (pr y p.2).1, .int (pr y p.2).2]) = H8 at *
        refine ⟨_, rfl, _, rfl, x, p.1, rfl, fun u9 hu9 => ?_⟩
        have s8 := same_new (o := (.tup [.int (pr x p.1).1, .int (pr x p.1).2])) hu9
        have hu10 : (upd H8 u9 (.tup [.int (pr x p.1).1, .int (pr x p.1).2])) u9 = some (.tup [.int (pr x p.1).1, .int (pr x p.1).2]) := upd_same
        generalize upd H8 u9 (.tup [.int (pr x p.1).1, .int (pr x p.1).2]) = H9 at *
        refine ⟨small200 (by show 2 ≤ 200; decide), fun u11 hu11 => ?_⟩
        have s9 := same_new (o := (.tup [.ref u7, .ref u9])) hu11
        have hu12 : (upd H9 u11 (.tup [.ref u7, .ref u9])) u11 = some (.tup [.ref u7, .ref u9]) := upd_same
        generalize upd H9 u11 (.tup [.ref u7, .ref u9]) = HA at *
        refine ⟨_, rfl, _, rfl, small200 (by show 2 ≤ 200; decide), fun u13 hu13 => ?_⟩
        have sB := same_new (o := .tup [.ref u5, .ref u11]) hu13
        have s6B := ((s7.trans s8).trans s9).trans sB
        refine k1 _ u13 (.ref u5) (.ref u11) (s12.trans ((((s3.trans s4).trans s5).trans s6).trans s6B)) upd_same ⟨u5, .ref u1, .ref u3, rfl, s6B _ _ hu6, ⟨u1, rfl, ((s5.trans s6).trans s6B) _ _ hu2⟩, ⟨u3, rfl, (s6.trans s6B) _ _ hu4⟩⟩ ⟨u11, .ref u7, .ref u9, rfl, sB _ _ hu12, ⟨u7, rfl, ((s8.trans s9).trans sB) _ _ hu8⟩, ⟨u9, rfl, (s9.trans sB) _ _ hu10⟩⟩
    · have g0 := nd g0
      refine ⟨_, rfl, iteF ?_⟩
      have em : mOf p x y = y := if_neg fun h => g0 h.1
      have ez : zOf p x y = x := if_neg fun h => g0 h.1
      rw [em, ez] at k1
      refine ⟨_, rfl, _, rfl, small200 (by show 2 ≤ 200; decide), fun t3 ht3 => ?_⟩
      have s3 := same_new (o := .tup [.int y, .int x]) ht3
      have ht4 : (upd H3 t3 (.tup [.int y, .int x])) t3 = some (.tup [.int y, .int x]) := upd_same
      generalize upd H3 t3 (.tup [.int y, .int x]) = H4 at *
      refine ⟨t3, _, rfl, .inl (.inl ht4), rfl, _, _, rfl, _, _, rfl, rfl, ?_⟩
      refine ⟨_, rfl, _, rfl, p.1, y, rfl, fun u1 hu1 => ?_⟩
      have s4 := same_new (o := .tup [.int (pr p.1 y).1, .int (pr p.1 y).2]) hu1
      have hu2 : (upd H4 u1 (.tup [.int (pr p.1 y).1, .int (pr p.1 y).2])) u1 = some (.tup [.int (pr p.1 y).1, .int (pr p.1 y).2]) := upd_same
      generalize upd H4 u1 (.tup [.int (pr p.1 y).1, .int (pr p.1 y).2]) = H5 at *
      refine ⟨_, rfl, _, rfl, p.2, x, rfl, fun u3 hu3 => ?_⟩
      have s5 := same_new (o := (.tup [.int (pr p.2 x).1, .int (pr p.2 x).2])) hu3
      have hu4 : (upd H5 u3 (.tup [.int (pr p.2 x).1, .int (pr p.2 x).2])) u3 = some (.tup [.int (pr p.2 x).1, .int (pr p.2 x).2]) := upd_same
      generalize upd H5 u3 (.tup [.int (pr p.2 x).1, .int (pr p.2 x).2]) = H6 at *
      refine ⟨small200 (by show 2 ≤ 200; decide), fun u5 hu5 => ?_⟩
      have s6 := same_new (o := (.tup [.ref u1, .ref u3])) hu5
      have hu6 : (upd H6 u5 (.tup [.ref u1, .ref u3])) u5 = some (.tup [.ref u1, .ref u3]) := upd_same
      generalize upd H6 u5 (.tup [.ref u1, .ref u3]) = H7 at *
      refine ⟨_, rfl, _, rfl, y, p.2, rfl, fun u7 hu7 => ?_⟩
      have s7 := same_new (o := (.tup [.int (pr y p.2).1, .int (pr y p.2).2])) hu7
      have hu8 : (upd H7 u7 (.tup [.int (pr y p.2).1, .int (pr y p.2).2])) u7 = some (.tup [.int (pr y p.2).1, .int (pr y p.2).2]) := upd_same
      generalize upd H7 u7 (.tup [.int (pr y p.2).1, .int (pr y p.2).2]) = H8 at *
      refine ⟨_, rfl, _, rfl, x, p.1, rfl, fun u9 hu9 => ?_⟩
      have s8 := same_new (o := (.tup [.int (pr x p.1).1, .int (pr x p.1).2])) hu9
      have hu10 : (upd H8 u9 (.tup [.int (pr x p.1).1, .int (pr x p.1).2])) u9 = some (.tup [.int (pr x p.1).1, .int (pr x p.1).2]) := upd_same
      generalize upd H8 u9 (.tup [.int (pr x p.1).1, .int (pr x p.1).2]) = H9 at *
      refine ⟨small200 (by show 2 ≤ 200; decide), fun u11 hu11 => ?_⟩
      have s9 := same_new (o := (.tup [.ref u7, .ref u9])) hu11
      have hu12 : (upd H9 u11 (.tup [.ref u7, .ref u9])) u11 = some (.tup [.ref u7, .ref u9]) := upd_same
      generalize upd H9 u11 (.tup [.ref u7, .ref u9]) = HA at *
      refine ⟨_, rfl, _, rfl, small200 (by show 2 ≤ 200; decide), fun u13 hu13 => ?_⟩
      have sB := same_new (o := .tup [.ref u5, .ref u11]) hu13
      have s6B := ((s7.trans s8).trans s9).trans sB
      refine k1 _ u13 (.ref u5) (.ref u11) (s12.trans ((((s3.trans s4).trans s5).trans s6).trans s6B)) upd_same ⟨u5, .ref u1, .ref u3, rfl, s6B _ _ hu6, ⟨u1, rfl, ((s5.trans s6).trans s6B) _ _ hu2⟩, ⟨u3, rfl, (s6.trans s6B) _ _ hu4⟩⟩ ⟨u11, .ref u7, .ref u9, rfl, sB _ _ hu12, ⟨u7, rfl, ((s8.trans s9).trans sB) _ _ hu8⟩, ⟨u9, rfl, (s9.trans sB) _ _ hu10⟩⟩

theorem pi_listK {X : Cx} {tg l : Expr} {tl : TE} (hK : X.K = K) (hl : PE X l tl) : PI X tg l (iList K tl) := by
  subst hK
  exact pi_list hl
theorem pg_tupK {X : Cx} {pos : Pos} {es : List Expr} {k : Nat} {t : TGs} {n : Nat} (hK : X.K = K) (hc : X.calm = true) (h : PGs X es t)
    (hn : (assignEach es X.env).length = n := by rfl) (hst : (assignEach es X.env).findIdx? (·.1) = none := by rfl) : PG X (.Tuple es k pos) (gTup K n t) := by
  subst hK
  exact pg_tup hc h hn hst

/-! ### {key: value for ..}, the keys tuples -/
section
variable {X : Cx}
theorem put_dt {pins : List (Addr × Obj)} {σ : L2.St} {H : Hp} {s : Shared} {Z : Value → Shared → Prop} {d b : Addr} {kvs : List (List L2.Key × V)} {k : List L2.Key} {v : V} {r : Value} {R : Unit → Shared → Prop} (hu : X.A.units + 1 < cLine)
    (J : Inv X pins σ H s) (ed : H d = some (.dT kvs)) (eb : H b = some (.tup (k.map kV))) (few : kvs.length < sizeLine) (rv : RelV v r) (go : ∀ s2, Inv X pins σ (upd H d (.dT (putK kvs k v))) s2 → R () s2) :
    wpAny (model X.prog X.w) X.A (dictSet d (.ref b) r) R Z s := by
  obtain ⟨lz, nd, ms, al, ent⟩ := dt_of J.hok ed
  have lm : ms.length ≤ sizeLine := (Paired.length al) ▸ lz
  have lput : (putK kvs k v).length ≤ sizeLine := Nat.le_trans (length_putK kvs k v) (by omega)
  refine wpAny_dictSet_heap (hsz := lm) (show X.A.units < cLine by omega) (key_of J.hok eb) ent fun g ent2 sb => go _ ?_
  obtain ⟨ob, e1, n1, w1, w2, w3, w4, _, w5⟩ := ent2
  refine d_write J (by rw [ed]; exact True.intro) sb ⟨ob, w1⟩ ⟨lput, nd, _, ?_, ob, e1, n1, w1, w2, w3, w4, w5⟩
  refine (al.put k eb rv).keeps fun c ys hc => ?_
  rw [upd_ne (ne_of hc ed (fun q => nomatch q))]
  exact hc
/-- D is the new dict -/
def tDct (wi : TI) (g : TG) (tt : TT) (tk tv : TE) (vs : List Nat) : TE := fun σ H Q => wi σ H fun J H1 => ∀ D, H1 D = none → ∃ W : Nat → Nat → Hp → Prop, (∃ m, W 0 m (upd H1 D (.dT []))) ∧ ∀ i m H, W i m H →
  (J.stop i H ∧ Q (.ref D) H) ∨ (J.go i H ∧ ∃ Nx : Hp → Prop, (∀ H', Nx H' → ∃ m', m' < m ∧ W (i + 1) m' H') ∧ ∀ x H', J.yld i H x H' → g x (wipe σ vs) H' fun σ2 H2 => wipe σ2 vs = wipe σ vs ∧ tt σ2 H2 fun b H3 =>
    if b = true then tk σ2 H3 fun y H4 => tv σ2 H4 fun z H5 => ∃ kvs k c, y = .ref c ∧ H5 c = some (.tup (k.map kV)) ∧ H5 D = some (.dT kvs) ∧ kvs.length < sizeLine ∧ Nx (upd H5 D (.dT (putK kvs k z))) else Nx H3)
end

section
variable {X : Cx}
theorem dct_block {pins : List (Addr × Obj)} {s : Shared} {σ : L2.St} {H : Hp} {Q : VK} {kx vx tg iter : Expr} {ifs : List Expr} {scope : Scope} {own : List (Str × Nat)} {pos at0 : Pos} {wi : TI} {g : TG} {tt : TT} {tk tv : TE} {use : Option (Value → Sem Unit)} {Z : Value → Shared → Prop}
    (cal : X.calm = true) (hu : X.A.units + 1 < cLine) (uniq : X.N.Nodup) (I : Inv X pins σ H s) (walk : PI X tg iter wi) (blk : BlkOk X.N X.env.scope scope own)
    (ptg : ∀ (s0 : Shared) (H0 : Hp) (C0 : Addr) (cs : List (Str × Addr)) (ad : List Addr), PG (X.blk s0 H0 scope (compEnvC scope cs C0 X.env) ad) tg g)
    (pts : ∀ (s0 : Shared) (H0 : Hp) (C0 : Addr) (cs : List (Str × Addr)) (ad : List Addr), PTs (X.blk s0 H0 scope (compEnvC scope cs C0 X.env) ad) ifs tt)
    (pky : ∀ (s0 : Shared) (H0 : Hp) (C0 : Addr) (cs : List (Str × Addr)) (ad : List Addr), PE (X.blk s0 H0 scope (compEnvC scope cs C0 X.env) ad) kx tk)
    (pvl : ∀ (s0 : Shared) (H0 : Hp) (C0 : Addr) (cs : List (Str × Addr)) (ad : List Addr), PE (X.blk s0 H0 scope (compEnvC scope cs C0 X.env) ad) vx tv)
    (fold : ∀ x, foldedSetIterable iter X.env x = pure x) (rd : tDct wi g tt tk tv (own.map (·.2)) σ H Q)
    (fin : ∀ D C sf names F, Inv X pins σ F sf → Q (.ref D) F → sf.heap.Ns C names → FpOk X pins F C → compPost (model X.prog X.w) X.A X.xe use Z (.ref D) C (.ok .next) sf) :
    wpAny (model X.prog X.w) X.A (comprehension (.DictComp kx vx [⟨tg, iter, ifs, 0⟩] scope pos) scope X.env at0 newDict false (eval iter X.env) use) Z X.xe s := by
  have cells : ∀ y ∈ scope.names, y.2 = .free → ∃ c, X.env.cells.lookup y.1 = some c := fun y my ey =>
    (blk.free y my ey).elim (fun z => I.ok.has _ (.inl z)) (fun z => I.ok.has _ (.inr z))
  refine wpAny_comprehension_free (use := use) rfl fold (closure_ok cells) blk.kind (fun y my ey => (blk.uniq y my).trans (by rw [ey])) (thn (walk.run pins s σ H _ I rd) fun x0 sa ha => thn ha fun i0 sb hb => ?_)
  obtain ⟨itA, ad, stn, J, Hb, rfl, Ib, Trn, stb, frb, body⟩ := hb
  refine wpAny_newObj_type (newEnv_comp ?_)
  obtain ⟨D, eD⟩ : ∃ D, D = sb.heap.objs.size := ⟨_, rfl⟩
  rw [← eD]
  have freeD : Hb D = none := Ib.hok.fresh (Nat.le_of_eq eD.symm)
  obtain ⟨W, ⟨mS, wS⟩, each⟩ := body D freeD
  obtain ⟨sc, esc⟩ : ∃ sc : Shared, sc = { sb with heap := sb.heap.push { cls := .type "dict", data := .dict #[] } } := ⟨_, rfl⟩
  obtain ⟨Hc, eHc⟩ : ∃ Hc, Hc = upd Hb D (.dT []) := ⟨_, rfl⟩
  have hpc : sc.heap = sb.heap.push { cls := .type "dict", data := .dict #[] } := by rw [esc]
  have Ic : Inv X pins σ Hc sc := by
    rw [eHc, esc]
    refine Ib.laid (t' := sb.toks) (fun b o z => Heap.get?_push_of_some _ z) (Nat.le_of_eq eD.symm) ?_
    rw [eD]
    exact dt_empty sb.heap Ib.big
  have small : ∀ b ∈ ad, b < sb.heap.objs.size := fun b mb => let ⟨_, ob, _⟩ := Trn.obj _ _ stb b mb; Heap.lt_size ob
  have frc : ∀ b ∈ ad, FpOk X pins Hc b ∧ b < sc.heap.objs.size := fun b mb => by
    have lb := small b mb
    refine ⟨⟨?_, (frb b mb).2⟩, by rw [hpc, Heap.size_push]; exact Nat.lt_succ_of_lt lb⟩
    rw [eHc, upd_ne (by rw [eD]; exact Nat.ne_of_lt lb)]
    exact (frb b mb).1
  have stc : stn 0 sc.heap := Trn.keep _ _ _ stb fun b _ o z => by rw [hpc]; exact Heap.get?_push_of_some _ z
  have Id := block_start Ic blk uniq frc
  have g1 := ptg sc Hc sc.heap.objs.size (cellsFrom (sc.heap.objs.size + 1) scope.names (cloFrom X.env.cells scope.names [])) ad
  have t1 := pts sc Hc sc.heap.objs.size (cellsFrom (sc.heap.objs.size + 1) scope.names (cloFrom X.env.cells scope.names [])) ad
  have k1 := pky sc Hc sc.heap.objs.size (cellsFrom (sc.heap.objs.size + 1) scope.names (cloFrom X.env.cells scope.names [])) ad
  have v1 := pvl sc Hc sc.heap.objs.size (cellsFrom (sc.heap.objs.size + 1) scope.names (cloFrom X.env.cells scope.names [])) ad
  have nadc : ∀ b ∈ ad, Hc b = none := fun b mb => (frc b mb).1.1
  rw [← esc]
  rw [← eHc] at wS
  show codeAny _ _ (.compStart (.DictComp kx vx [⟨tg, iter, ifs, 0⟩] scope pos) 0 (.ref itA) (.ref D) (compEnvC scope (cellsFrom (sc.heap.objs.size + 1) scope.names (cloFrom X.env.cells scope.names [])) sc.heap.objs.size X.env)) (compPost (model X.prog X.w) X.A X.xe use Z (.ref D) sc.heap.objs.size) { sc with heap := pushCells (sc.heap.push { cls := .type "dict", data := .dict #[] }) scope.names }
  obtain ⟨bE, hbE⟩ : ∃ bE, bE = compEnvC scope (cellsFrom (sc.heap.objs.size + 1) scope.names (cloFrom X.env.cells scope.names [])) sc.heap.objs.size X.env := ⟨_, rfl⟩
  have atL : bE.locals = sc.heap.objs.size := by rw [hbE]; rfl
  rw [← hbE] at Id g1 t1 k1 v1 ⊢
  obtain ⟨sd, esd⟩ : ∃ sd : Shared, sd = { sc with heap := pushCells (sc.heap.push { cls := .type "dict", data := .dict #[] }) scope.names } := ⟨_, rfl⟩
  have std : stn 0 sd.heap := Trn.keep _ _ _ stc fun b _ o z => by rw [esd]; exact pushCells_keeps _ _ _ _ (Heap.get?_push_of_some _ z)
  rw [← esd] at Id ⊢
  have firm : ∀ {τ : L2.St} {F : Hp} {u : Shared}, Inv (X.blk sc Hc scope bE ad) [] τ F u → (∀ b ∈ ad, F b = none) → ∀ b ∈ ad, FpOk (X.blk sc Hc scope bE ad) [] F b := fun {τ F u} Iu nu b mb =>
    ⟨nu b mb, (Iu.ok.exf b mb).1, Iu.ok.exfs b mb, Or.inl mb, fun x c z => (Iu.ok.exf b mb).2 x c z, fun p mp => by cases (show p ∈ ([] : List (Addr × Obj)) from mp)⟩
  refine codeAny_compStart_dict ?loop (Trn.self X.A 0 _ _ _ std ?loop)
  refine compLoop_anyD (fun m u => ∃ i F, Inv (X.blk sc Hc scope bE ad) [] (wipe σ (own.map (·.2))) F u ∧ stn i u.heap ∧ (∀ b ∈ ad, F b = none) ∧ W i m F) ?_ mS ⟨0, Hc, Id, std, nadc, wS⟩
  rintro m se ⟨i, F, Ie, ste, nde, we⟩
  rcases each i m F we with ⟨ends, post⟩ | ⟨goes, Nx, falls, turn⟩
  · refine thnF (Trn.done (X.blk sc Hc scope bE ad) rfl rfl rfl cal i [] se _ F (fun _ _ => False) Ie (firm Ie nde) ste ends) fun r sf ⟨er, If⟩ => ?_
    subst er
    have Ig : Inv X pins σ F sf := Ic.call' (ch := ad) If.os If.base If.hok If.bare fun b mb =>
      let z := (frc b mb).1
      ⟨z.2.2.2.1, z.2.1, z.2.2.2.2.1, z.2.2.2.2.2⟩
    have nl : F sc.heap.objs.size = none := by rw [← atL]; exact If.free
    obtain ⟨names, ns, _⟩ := If.loc
    have ns : sf.heap.Ns bE.locals names := ns
    rw [atL] at ns
    exact fin D _ sf names F Ig post ns (Ic.fpOk (Nat.le_refl _) nl)
  · refine thnF (Trn.item (X.blk sc Hc scope bE ad) rfl rfl rfl cal i [] se _ F (fun _ _ => False) Ie (firm Ie nde) ste goes) fun r sf ⟨u, er, hf⟩ => ?_
    subst er
    refine thnF hf fun _ sg ⟨x, G, Ig, rg, yg, stg, ndg⟩ => ?_
    have Ip := Ig.pinned (firm Ig ndg) (Trn.obj _ _ stg)
    refine thnF (g1.run _ sg _ G x u _ Ip rg (turn x G yg)) fun _ sh ⟨τ, Hh, Ih, wh, rest⟩ => ?_
    refine thnF (t1.run _ sh τ Hh _ Ih rest) fun yes si ⟨Hi, Ii, qi⟩ => ?_
    have close : ∀ {u : Shared} {F2 : Hp}, Inv (X.blk sc Hc scope bE ad) ([] ++ pinsAt ad sg.heap) τ F2 u → Nx F2 → ∃ m2, m2 < m ∧ ∃ i F, Inv (X.blk sc Hc scope bE ad) [] (wipe σ (own.map (·.2))) F u ∧ stn i u.heap ∧ (∀ b ∈ ad, F b = none) ∧ W i m2 F := fun {u F2} Iu nx => by
      obtain ⟨m2, less, w2⟩ := falls F2 nx
      have pinned : ∀ b ∈ ad, ∀ o, sg.heap.get? b = some o → u.heap.get? b = some o ∧ F2 b = none := fun b mb o z => by
        have zz := Iu.pin (b, o) (List.mem_append_right _ (List.mem_append_right _ (mem_pinsAt mb z)))
        exact ⟨zz.1, zz.2.1⟩
      have same : (wipe σ (own.map (·.2))).length = τ.length := by rw [← wh, wipe_length]
      refine ⟨m2, less, i + 1, F2, (Iu.unpinned (pins := [])).weak same (fun j v z => ?_), Trn.keep _ _ _ stg fun b mb o z => (pinned b mb o z).1, fun b mb => ?_, w2⟩
      · exact (wipe_some (by rw [wh]; exact z)).1
      · exact let ⟨o, z, _⟩ := Trn.obj _ _ stg b mb; (pinned b mb o z).2
    cases yes with
    | false =>
      rw [if_neg Bool.false_ne_true] at qi ⊢
      exact close Ii qi
    | true =>
      rw [if_pos rfl] at qi ⊢
      refine thnF (k1.run _ si τ Hi _ Ii qi) fun ku sj ⟨yk, Hj, Ij, rj, qj⟩ => ?_
      refine thnF (v1.run _ sj τ Hj _ Ij qj) fun vu sk ⟨yv, Hk, Ik, rk, kvs, k, c, ek, ec, eDk, few, nx⟩ => ?_
      subst ek
      obtain rfl : ku = Value.ref c := rj
      exact put_dt (X := X.blk sc Hc scope bE ad) hu Ik eDk ec few rk fun sl Il => close Il nx
theorem pe_dct {kx vx tg iter : Expr} {ifs : List Expr} {scope : Scope} {own : List (Str × Nat)} {pos : Pos} {wi : TI} {g : TG} {tt : TT} {tk tv : TE} (cal : X.calm = true) (hu : X.A.units + 1 < cLine) (uniq : X.N.Nodup) (walk : PI X tg iter wi) (blk : BlkOk X.N X.env.scope scope own)
    (ptg : ∀ (s0 : Shared) (H0 : Hp) (C0 : Addr) (cs : List (Str × Addr)) (ad : List Addr), PG (X.blk s0 H0 scope (compEnvC scope cs C0 X.env) ad) tg g)
    (pts : ∀ (s0 : Shared) (H0 : Hp) (C0 : Addr) (cs : List (Str × Addr)) (ad : List Addr), PTs (X.blk s0 H0 scope (compEnvC scope cs C0 X.env) ad) ifs tt)
    (pky : ∀ (s0 : Shared) (H0 : Hp) (C0 : Addr) (cs : List (Str × Addr)) (ad : List Addr), PE (X.blk s0 H0 scope (compEnvC scope cs C0 X.env) ad) kx tk)
    (pvl : ∀ (s0 : Shared) (H0 : Hp) (C0 : Addr) (cs : List (Str × Addr)) (ad : List Addr), PE (X.blk s0 H0 scope (compEnvC scope cs C0 X.env) ad) vx tv)
    (fold : ∀ x, foldedSetIterable iter X.env x = pure x := by intro _; rfl) :
    PE X (.DictComp kx vx [⟨tg, iter, ifs, 0⟩] scope pos) (tDct wi g tt tk tv (own.map (·.2))) := by
  refine ⟨fun pins s σ H Q I rd => ?_⟩
  rw [arm_eval_DictComp]
  refine dct_block cal hu uniq I walk blk ptg pts pky pvl fold rd fun D C sf names F If qf ns fp => ⟨names, ns, fun h2 sb2 => ?_⟩
  exact let ⟨f0, f1, f2, f3, f4, f5⟩ := fp; ⟨.ref D, F, If.turned (t' := sf.toks) (fun b o mb z => (sb2.2 b mb).trans z) f0 f1 f3 f4 f5, rfl, qf⟩
theorem ps_setDct {i : Nat} {y : Str} {py : Pos} {kx vx tg iter : Expr} {ifs : List Expr} {scope : Scope} {own : List (Str × Nat)} {pos spos : Pos} {wi : TI} {g : TG} {tt : TT} {tk tv : TE} (cal : X.calm = true) (hu : X.A.units + 1 < cLine) (uniq : X.N.Nodup) (hy : X.N[i]? = some y)
    (loc : X.env.scope.names.lookup y = some .local) (swp : swapsWith (.DictComp kx vx [⟨tg, iter, ifs, 0⟩] scope pos) (some (.Name y py)) spos.line X.env = pure true) (walk : PI X tg iter wi) (blk : BlkOk X.N X.env.scope scope own)
    (ptg : ∀ (s0 : Shared) (H0 : Hp) (C0 : Addr) (cs : List (Str × Addr)) (ad : List Addr), PG (X.blk s0 H0 scope (compEnvC scope cs C0 X.env) ad) tg g)
    (pts : ∀ (s0 : Shared) (H0 : Hp) (C0 : Addr) (cs : List (Str × Addr)) (ad : List Addr), PTs (X.blk s0 H0 scope (compEnvC scope cs C0 X.env) ad) ifs tt)
    (pky : ∀ (s0 : Shared) (H0 : Hp) (C0 : Addr) (cs : List (Str × Addr)) (ad : List Addr), PE (X.blk s0 H0 scope (compEnvC scope cs C0 X.env) ad) kx tk)
    (pvl : ∀ (s0 : Shared) (H0 : Hp) (C0 : Addr) (cs : List (Str × Addr)) (ad : List Addr), PE (X.blk s0 H0 scope (compEnvC scope cs C0 X.env) ad) vx tv)
    (fold : ∀ x, foldedSetIterable iter X.env x = pure x := by intro _; rfl) :
    PS X (.Assign [.Name y py] (.DictComp kx vx [⟨tg, iter, ifs, 0⟩] scope pos) spos) (tAsg (tDct wi g tt tk tv (own.map (·.2))) (gName i)) := by
  refine ⟨fun pins s σ H E I rd => ?_⟩
  rw [exec_Assign_Name_used _ _ _ _ swp]
  have rd : tDct wi g tt tk tv (own.map (·.2)) σ H (fun x F => gName i x σ F E.nx) := rd
  refine wpAny_bind (wpAny_standAt (wpAny_bind ?_))
  show wpAny _ X.A (do let _ ← comprehension (.DictComp kx vx [⟨tg, iter, ifs, 0⟩] scope pos) scope X.env (firstIterPos [⟨tg, iter, ifs, 0⟩] pos) newDict false (eval iter X.env) (some (assign (.Name y py) X.env))) _ _ s
  refine wpAny_bind (thn (dct_block (Z := fun _ u => SP X pins E .next u) cal hu uniq I walk blk ptg pts pky pvl fold rd fun L C sf names F If qf ns fp => ?_) fun _ _ z => wpAny_pure (wpAny_pure z))
  show wpAny _ _ (assign (.Name y py) X.env (.ref L)) _ _ _
  obtain ⟨f0, f1, f2, f3, f4, f5⟩ := fp
  refine wpAny_assign_Name (store_ok2 (v := V.ref L) If uniq hy (.inl loc) rfl (fun sz Iz ⟨a, sb, wh⟩ => ?_) (.inr loc))
  have off : C ≠ a := wh.elim (fun z => by rw [z]; exact f1) (fun z e => f4 y a z e.symm)
  exact ⟨names, ns.sameBut sb off, fun hz sbz => ⟨_, F, Iz.turned (t' := sz.toks) (fun b o mb z => (sbz.2 b mb).trans z) f0 f1 f3 f4 f5, qf⟩⟩
theorem dct_list {K : PySem.W.Frag} {a : Addr} {xs : List V} {g : TG} {tt : TT} {tk tv : TE} {vs : List Nat} {σ : L2.St} {H1 : Hp} {D : Addr} {Qd : Hp → Prop} (Pv : Nat → Hp → Prop) (h0 : Pv 0 (upd H1 D (.dT []))) (keep : ∀ i H, i ≤ xs.length → Pv i H → SqL K H a xs)
    (turn : ∀ i x H, xs[i]? = some x → Pv i H → g x (wipe σ vs) H fun σ2 H2 => wipe σ2 vs = wipe σ vs ∧ tt σ2 H2 fun b H3 =>
      if b = true then tk σ2 H3 fun y H4 => tv σ2 H4 fun z H5 => ∃ kvs k c, y = V.ref c ∧ H5 c = some (.tup (k.map kV)) ∧ H5 D = some (.dT kvs) ∧ kvs.length < sizeLine ∧ Pv (i + 1) (upd H5 D (.dT (putK kvs k z))) else Pv (i + 1) H3) (last : ∀ H, Pv xs.length H → Qd H) :
    ∃ W : Nat → Nat → Hp → Prop, (∃ m, W 0 m (upd H1 D (.dT []))) ∧ ∀ i m H, W i m H →
      ((Itl K a).stop i H ∧ Qd H) ∨ ((Itl K a).go i H ∧ ∃ Nx : Hp → Prop, (∀ H', Nx H' → ∃ m', m' < m ∧ W (i + 1) m' H') ∧ ∀ x H', (Itl K a).yld i H x H' → g x (wipe σ vs) H' fun σ2 H2 => wipe σ2 vs = wipe σ vs ∧ tt σ2 H2 fun b H3 =>
        if b = true then tk σ2 H3 fun y H4 => tv σ2 H4 fun z H5 => ∃ kvs k c, y = V.ref c ∧ H5 c = some (.tup (k.map kV)) ∧ H5 D = some (.dT kvs) ∧ kvs.length < sizeLine ∧ Nx (upd H5 D (.dT (putK kvs k z))) else Nx H3) := by
  refine ⟨fun i m F => i + m = xs.length ∧ Pv i F, ⟨xs.length, Nat.zero_add _, h0⟩, fun i m F ⟨im, pv⟩ => ?_⟩
  have lst := keep i F (by omega) pv
  cases m with
  | zero =>
    obtain rfl : i = xs.length := by omega
    exact .inl ⟨⟨xs, lst, Nat.le_refl _⟩, last F pv⟩
  | succ m =>
    have lt : i < xs.length := by omega
    refine .inr ⟨⟨xs, xs[i], lst, List.getElem?_eq_getElem lt⟩, Pv (i + 1), fun F' pv' => ⟨m, Nat.lt_succ_self m, by omega, pv'⟩, fun x F' yl => ?_⟩
    obtain ⟨rfl, same⟩ := yl
    exact turn i x _ (same xs lst) pv
theorem dct_keysT {a : Addr} {o : Obj} {kvs : List (List Key × V)} {g : TG} {tt : TT} {tk tv : TE} {vs : List Nat} {σ : L2.St} {H1 : Hp} {D : Addr} {Qd : Hp → Prop} (Pv : Nat → Hp → Prop) (h0 : Pv 0 (upd H1 D (.dT []))) (keep : ∀ i H, i ≤ kvs.length → Pv i H → H a = some (.frz o (.dT kvs)))
    (turn : ∀ i k v q H, kvs[i]? = some (k, v) → Pv i H → H q = some (.tup (k.map kV)) → g (.ref q) (wipe σ vs) H fun σ2 H2 => wipe σ2 vs = wipe σ vs ∧ tt σ2 H2 fun b H3 =>
      if b = true then tk σ2 H3 fun y H4 => tv σ2 H4 fun z H5 => ∃ kvs k c, y = V.ref c ∧ H5 c = some (.tup (k.map kV)) ∧ H5 D = some (.dT kvs) ∧ kvs.length < sizeLine ∧ Pv (i + 1) (upd H5 D (.dT (putK kvs k z))) else Pv (i + 1) H3) (last : ∀ H, Pv kvs.length H → Qd H) :
    ∃ W : Nat → Nat → Hp → Prop, (∃ m, W 0 m (upd H1 D (.dT []))) ∧ ∀ i m H, W i m H →
      ((Itkt a o kvs).stop i H ∧ Qd H) ∨ ((Itkt a o kvs).go i H ∧ ∃ Nx : Hp → Prop, (∀ H', Nx H' → ∃ m', m' < m ∧ W (i + 1) m' H') ∧ ∀ x H', (Itkt a o kvs).yld i H x H' → g x (wipe σ vs) H' fun σ2 H2 => wipe σ2 vs = wipe σ vs ∧ tt σ2 H2 fun b H3 =>
        if b = true then tk σ2 H3 fun y H4 => tv σ2 H4 fun z H5 => ∃ kvs k c, y = V.ref c ∧ H5 c = some (.tup (k.map kV)) ∧ H5 D = some (.dT kvs) ∧ kvs.length < sizeLine ∧ Nx (upd H5 D (.dT (putK kvs k z))) else Nx H3) := by
  refine ⟨fun i m F => i + m = kvs.length ∧ Pv i F, ⟨kvs.length, Nat.zero_add _, h0⟩, fun i m F ⟨im, pv⟩ => ?_⟩
  have lst := keep i F (by omega) pv
  cases m with
  | zero =>
    obtain rfl : i = kvs.length := by omega
    exact .inl ⟨⟨lst, Nat.le_refl _⟩, last F pv⟩
  | succ m =>
    have lt : i < kvs.length := by omega
    refine .inr ⟨⟨lst, lt⟩, Pv (i + 1), fun F' pv' => ⟨m, Nat.lt_succ_self m, by omega, pv'⟩, fun x F' yl => ?_⟩
    obtain ⟨rfl, k, v, q, hk, rfl, hq⟩ := yl
    exact turn i k v q F' hk pv hq
end

def sp_prod (K : PySem.W.Frag) : Sp := fun vs H Q _ => ∃ (d : Addr) (v : V) (dom : List (Int × Int)) (f : Int × Int → Int × Int) (p q : Int × Int), vs = [.ref d, v] ∧ FD K H d dom f ∧ TwoAt K H v p q ∧ p ∈ dom ∧ q ∈ dom ∧ Frac 1000 (f p) ∧ Frac 1000 (f q) ∧
  ∀ H' r, Same H H' → PrAt K H' r (mulV (f p) (f q)) → Q r H'
theorem ok_product_of (T : Env K mg) : FnOk P w K mg base CX0 3 T.a_product_of T.fd_product_of ["lengths", "pair"] (sp_prod K) := by
  refine T.F_product_of.ok sc_product_of (fun vs H Q E h => ?_) (fun cdv A outer s H vs Q E hr h => ?_)
  · obtain ⟨d, v, dom, f, p, q, rfl, _⟩ := h
    rfl
  · obtain ⟨d, v, dom, f, p, q, rfl, hF, hv, hp, hq, fp, fq, k⟩ := h
    refine ⟨_, (pss_cons (ps_asg (pv 1) (pg_tup rfl (pgs_cons (pg_name (i := 2) sc_product_of.nd rfl (.inl rfl)) (pgs_cons (pg_name (i := 3) sc_product_of.nd rfl (.inl rfl)) pgs_nil))))
 (pss_one (ps_ret (pe_call (ok_times T) (hr.mono (by decide)) (by rfl) T.g_times T.F_times.kp T.b_times .nil pass0 (pa_cons (pe_dget (hu_of hr) (pv 0) (pv 2) (fun _ _ => rfl)) (pa_cons (pe_dget (hu_of hr) (pv 0) (pv 3) (fun _ _ => rfl)) pa_nil)))))), ?_⟩
    obtain ⟨t, u, w, rfl, ht, ⟨a, rfl, ha⟩, ⟨b, rfl, hb⟩⟩ := hv
    obtain ⟨⟨kvs, e, r⟩, nd, sm⟩ := hF
    obtain ⟨va, ga, ha2⟩ := Ents.get r hp
    obtain ⟨vb, gb, hb2⟩ := Ents.get r hq
    refine ⟨_, rfl, t, _, rfl, .inl (.inl ht), rfl, _, _, rfl, _, _, rfl, rfl, ?_⟩
    refine ⟨_, rfl, _, rfl, d, _, rfl, (by rw [← ga]; exact DGet.t e (key_pk ha)), _, rfl, _, rfl, d, _, rfl, (by rw [← gb]; exact DGet.t e (key_pk hb)), ?_⟩
    exact ⟨va, vb, f p, f q, rfl, ha2, hb2, fp.more (by decide), fq.more (by decide), k⟩
def sp_ratio (K : PySem.W.Frag) (C : Addr) : Sp := fun vs H Q E => ∃ (n : Int) (c d : Addr) (xs : List V) (l dom : List (Int × Int)) (f : Int × Int → Int × Int) (a b : Int), vs = [.int n, .ref c, .ref d, .int a, .int b] ∧ 3 ≤ n ∧ n ≤ 12 ∧ H c = some (.lst xs) ∧ PrL K H xs l ∧ l.length ≤ 100 ∧ IsCut n l ∧
  FD K H d dom f ∧ (∀ p ∈ tiesS n l, p ∈ dom ∧ Frac 1000 (f p)) ∧ (pr a b ∉ l → ∀ H', Same H H' → E (.ref C) none H') ∧
  (pr a b ∈ l → ∀ H' v, Same H H' → PrAt K H' v (rateL n l f (pr a b)) → Q v H')
theorem ok_ratio (T : Env K mg) : FnOk P w K mg base (L2.CX P w) 6 T.a_ratio T.fd_ratio ["n", "cut", "lengths", "a", "b"] (sp_ratio K T.C_NoRope) := by
  refine T.F_ratio.okX sc_ratio (fun vs H Q E h => ?_) (fun cdv A outer s H vs Q E hr h => ?_)
  · obtain ⟨n, c, d, xs, l, dom, f, a, b, rfl, _⟩ := h
    rfl
  · obtain ⟨n, c, d, xs, l, dom, f, a, b, rfl, h3, h12, hc, hL, hl, hC, hF, hD, k0, k1⟩ := h
    refine ⟨_, (pss_cons (ps_asg (pe_callS (ok_ties_round T) (hr.mono (by decide)) (by rfl) T.g_ties_round T.F_ties_round.kp T.b_ties_round (fun σ => passAt (takes_of rfl rfl rfl rfl) σ) (pa_cons (pv 0) (pa_cons (pv 1) (pa_cons (pv 3) (pa_cons (pv 4) pa_nil))))) (pg_tup rfl (pgs_cons (pg_name (i := 5) sc_ratio.nd rfl (.inl rfl)) (pgs_cons (pg_name (i := 6) sc_ratio.nd rfl (.inl rfl)) pgs_nil))))
 (pss_one (ps_ret (pe_call (ok_over T) (hr.mono (by decide)) (by rfl) T.g_over T.F_over.kp T.b_over .nil pass0 (pa_cons (pe_call (ok_product_of T) (hr.mono (by decide)) (by rfl) T.g_product_of T.F_product_of.kp T.b_product_of .nil pass0 (pa_cons (pv 2) (pa_cons (pv 5) pa_nil))) (pa_cons (pe_call (ok_product_of T) (hr.mono (by decide)) (by rfl) T.g_product_of T.F_product_of.kp T.b_product_of .nil pass0 (pa_cons (pv 2) (pa_cons (pv 6) pa_nil))) pa_nil)))))), ?_⟩
    refine ⟨_, rfl, _, rfl, _, rfl, _, rfl, n, c, xs, l, a, b, rfl, h3, h12, hc, hL, hl, hC, k0, fun hm x y hT H1 q u w s1 hq hu hw => ?_⟩
    have k1 := k1 hm
    have hAr := round hT
    rw [rateL_at hT] at k1
    generalize pr a b = p at *
    have t1 := hD _ hAr.lm
    have t2 := hD _ hAr.hz
    have t3 := hD _ (by have := hAr.hm; rw [pr_comm] at this; exact this)
    have t4 := hD _ (by have := hAr.lz; rw [pr_comm] at this; exact this)
    have hF1 := hF.mono s1
    refine ⟨q, _, rfl, .inl (.inl hq), rfl, _, _, rfl, _, _, rfl, rfl, ?_⟩
    refine ⟨_, rfl, _, rfl, d, u, dom, f, _, _, rfl, hF1, hu, t1.1, t2.1, t1.2, t2.2, fun H2 r s2 hr2 => ?_⟩
    refine ⟨_, rfl, _, rfl, d, w, dom, f, _, _, rfl, hF1.mono s2, hw.mono s2, t3.1, t4.1, t3.2, t4.2, fun H3 r' s3 hr3 => ?_⟩
    exact ⟨r, r', _, _, rfl, hr2.mono s3, hr3, (mulV_frac t1.2 t2.2).more (by decide), (mulV_frac t3.2 t4.2).more (by decide), fun H4 v s4 hv => k1 H4 v (((s1.trans s2).trans s3).trans s4) hv⟩
/-- the values of a row of pairs, as a function -/
def sp_ratios (K : PySem.W.Frag) : Sp := fun vs H Q _ => ∃ (n : Int) (c d : Addr) (xs : List V) (l dom : List (Int × Int)) (f : Int × Int → Int × Int), vs = [.int n, .ref c, .ref d] ∧ 3 ≤ n ∧ n ≤ 12 ∧ H c = some (.lst xs) ∧ PrL K H xs l ∧ l.length ≤ 100 ∧ IsCut n l ∧
  FD K H d dom f ∧ (∀ p ∈ tiesS n l, p ∈ dom ∧ Frac 1000 (f p)) ∧ ∀ H' D, Same H H' → H D = none → FD K H' D l (rateL n l f) → Q (.ref D) H'
theorem ok_ratios (T : Env K mg) : FnOk P w K mg base CX0 7 T.a_ratios T.fd_ratios ["n", "cut", "lengths"] (sp_ratios K) := by
  refine T.F_ratios.ok sc_ratios (fun vs H Q E h => ?_) (fun cdv A outer s H vs Q E hr h => ?_)
  · obtain ⟨n, c, d, xs, l, dom, f, rfl, _⟩ := h
    rfl
  · obtain ⟨n, c, d, xs, l, dom, f, rfl, h3, h12, hc, hL, hl, hC, hF, hD, k⟩ := h
    refine ⟨_, (pss_one (ps_ret (pe_dct (own := [("a", 3), ("b", 4)]) (by rfl) (hu_of hr) sc_ratios.nd (pi_list (pv 1)) (blkOk_by (own := [("a", 3), ("b", 4)]) (N := ["n", "cut", "lengths", "a", "b"]) (sc := defScope s_ratios) (by decide +kernel)) (fun _ _ _ _ _ => (pg_tupK (K := K) (n := 2) rfl rfl (pgs_cons (pg_name (i := 3) sc_ratios.nd rfl (.inl rfl)) (pgs_cons (pg_name (i := 4) sc_ratios.nd rfl (.inl rfl)) pgs_nil)))) (fun _ _ _ _ _ => pts_nil) (fun _ _ _ _ _ => (pe_tup (pa_cons (pv 3) (pa_cons (pv 4) pa_nil)))) (fun _ _ _ _ _ => (pe_call (ok_ratio T) (hr.mono (by decide)) (by rfl) T.g_ratio T.F_ratio.kp T.b_ratio .nil passL (pa_cons (pv 0) (pa_cons (pv 1) (pa_cons (pv 2) (pa_cons (pv 3) (pa_cons (pv 4) pa_nil)))))))))), ?_⟩
    have hxl := hL.length
    refine ⟨_, rfl, c, rfl, ⟨_, .inl (.inl hc)⟩, fun D hD0 => ?_⟩
    refine dct_list (K := K) (a := c) (xs := xs) (fun i H' => Same H H' ∧ FD K H' D (l.take i) (rateL n l f)) ⟨same_new hD0, by rw [List.take_zero]; exact FD.nil upd_same⟩ ?_ ?_ ?_
    · rintro i H' _ ⟨s3, _⟩
      exact .inl (.inl (s3 _ _ hc))
    · rintro i x' H' hi ⟨s3, hFi⟩
      obtain ⟨p, hp, u, rfl, hu⟩ := hL.at hi
      have hil : i < xs.length := (List.getElem?_eq_some_iff.mp hi).1
      have hpm : p ∈ l := List.mem_of_getElem? hp
      have hpl := cut_lt hC hpm
      have epr : pr p.1 p.2 = p := pr_of_lt (by omega)
      refine ⟨u, _, rfl, .inl (.inl (s3 _ _ hu)), rfl, _, _, rfl, _, _, rfl, rfl, rfl, yes_read ?_⟩
      refine ⟨_, rfl, _, rfl, small200 (by show 2 ≤ 200; decide), fun t ht => ?_⟩
      have s4 := same_new (o := .tup [.int p.1, .int p.2]) ht
      have ht2 : (upd H' t (.tup [.int p.1, .int p.2])) t = some (.tup [.int p.1, .int p.2]) := upd_same
      generalize upd H' t (.tup [.int p.1, .int p.2]) = H3 at *
      have s34 := s3.trans s4
      refine ⟨_, rfl, _, rfl, _, rfl, _, rfl, _, rfl, n, c, d, xs, l, dom, f, p.1, p.2, rfl, h3, h12, s34 _ _ hc, hL.mono s34, hl, hC, hF.mono s34, hD, fun hn => absurd hpm (by rw [epr] at hn; exact hn), fun _ H5 v s5 hv => ?_⟩
      rw [epr] at hv
      obtain ⟨⟨kvs, e1, e2⟩, nd, sm⟩ := hFi.mono (s4.trans s5)
      have htk : p ∉ l.take i := fun hm => by
        obtain ⟨j, hj⟩ := List.getElem?_of_mem hm
        have hjl := (List.getElem?_eq_some_iff.mp hj).1
        rw [List.length_take] at hjl
        rw [List.getElem?_take_of_lt (by omega)] at hj
        have := nodup_at hC.nd hj hp
        omega
      have hfew := e2.length
      rw [List.length_take] at hfew
      refine ⟨kvs, pk p, t, rfl, s5 _ _ (key_pk ht2), e1, small200' (by omega), same_put (s34.trans s5) hD0, ?_⟩
      rw [take_more hp]
      refine FD.val (FD.put nd sm e1 e2 htk ⟨hpl.1, by omega, by omega, by omega⟩ hv) fun q _ => ?_
      unfold setF
      split
      · next e => rw [e]
      · rfl
    · rintro H' ⟨s3, hFi⟩
      rw [List.take_of_length_le (by omega)] at hFi
      exact k H' D s3 hD0 hFi

/-! ### the law's ratios -/
def sp_lring (K : PySem.W.Frag) : Sp := fun vs H Q _ => ∃ (n : Int) (c : Addr) (v : V) (xs : List V) (l : List (Int × Int)) (p : Int × Int) (x y : Int), vs = [.int n, .ref c, v] ∧ 3 ≤ n ∧ n ≤ 12 ∧ H c = some (.lst xs) ∧ PrL K H xs l ∧ l.length ≤ 100 ∧ PrAt K H v p ∧ Turns n l p x y ∧
  ∀ H' q (ws : List Int), Same H H' → H' q = some (.lst (ws.map V.int)) → ws.Perm [p.1, p.2, x, y] → ws.Pairwise (· ≤ ·) → Q (.ref q) H'
theorem ok__law_ring (T : Env K mg) : FnOk P w K mg base CX0 3 T.a__law_ring T.fd__law_ring ["_law_n", "_law_cut", "_law_rope"] (sp_lring K) := by
  refine T.F__law_ring.ok sc__law_ring (fun vs H Q E h => ?_) (fun cdv A outer s H vs Q E hr h => ?_)
  · obtain ⟨n, c, v, xs, l, p, x, y, rfl, _⟩ := h
    rfl
  · obtain ⟨n, c, v, xs, l, p, x, y, rfl, h3, h12, hc, hL, hl, hv, hT, k⟩ := h
    refine ⟨_, (pss_cons (ps_set (i := 3) sc__law_ring.nd rfl (.inl rfl) (pe_call (ok__law_beside T) (hr.mono (by decide)) (by rfl) T.g__law_beside T.F__law_beside.kp T.b__law_beside .nil pass0 (pa_cons (pv 0) (pa_cons (pe_call (ok__law_ties T) (hr.mono (by decide)) (by rfl) T.g__law_ties T.F__law_ties.kp T.b__law_ties .nil pass0 (pa_cons (pv 0) (pa_cons (pv 1) pa_nil))) (pa_cons (pe_ix ix_tup (pv 2) pe_int (fun _ _ => rfl)) (pa_cons (pe_ix ix_tup (pv 2) pe_int (fun _ _ => rfl)) pa_nil))))))
 (pss_one (ps_ret (pe_callB cr_sortedI (by rfl) T.m_sorted (by decide +kernel) (pa_cons (pe_lst (pa_cons (pe_ix ix_tup (pv 2) pe_int (fun _ _ => rfl)) (pa_cons (pe_ix ix_tup (pv 2) pe_int (fun _ _ => rfl)) (pa_cons (pe_ix ix_list (pv 3) pe_int (fun _ _ => rfl)) (pa_cons (pe_ix ix_list (pv 3) pe_int (fun _ _ => rfl)) pa_nil))))) pa_nil))))), ?_⟩
    obtain ⟨t, rfl, ht⟩ := hv
    have htl := tiesS_len h3 h12 hl
    refine ⟨_, rfl, _, rfl, _, rfl, n, c, xs, l, rfl, h3, h12, hc, hL, hl, fun H1 d zs s1 nd hd hZ => ?_⟩
    have hT1 : SqT K H1 t [.int p.1, .int p.2] := .inl (.inl (s1 _ _ ht))
    refine ⟨_, rfl, t, _, _, _, rfl, rfl, hT1, atI_nat (j := 0) rfl, _, rfl, t, _, _, _, rfl, rfl, hT1, atI_nat (j := 1) rfl, n, d, zs, _, p.1, p.2, rfl, h3, h12, hd, hZ, htl, fun H2 e s2 ne he => ?_⟩
    rw [hT.bes] at he
    have hT2 : SqT K H2 t [.int p.1, .int p.2] := .inl (.inl (s2 _ _ (s1 _ _ ht)))
    have hE : SqL K H2 e [.int x, .int y] := .inl (.inl he)
    refine ⟨_, rfl, t, _, _, _, rfl, rfl, hT2, atI_nat (j := 0) rfl, _, rfl, t, _, _, _, rfl, rfl, hT2, atI_nat (j := 1) rfl, _, rfl, e, _, _, _, rfl, rfl, hE, atI_nat (j := 0) rfl, _, rfl, e, _, _, _, rfl, rfl, hE, atI_nat (j := 1) rfl, small200 (by show 4 ≤ 200; decide), fun r hr2 => ?_⟩
    have s3 := same_new (o := .lst [.int p.1, .int p.2, .int x, .int y]) hr2
    refine ⟨r, [p.1, p.2, x, y], rfl, .inl (.inl upd_same), fun ws g hp hs hg => ?_⟩
    have s4 := same_new (o := .lst (ws.map V.int)) hg
    exact k _ g ws (((s1.trans s2).trans s3).trans s4) upd_same hp hs
theorem sort4 {ws zs : List Int} (h : ws.Perm zs) (hw : ws.Pairwise (· ≤ ·)) (hz : zs.Pairwise (· ≤ ·)) : ws = zs :=
  List.Perm.eq_of_pairwise (le := (· ≤ ·)) (fun _ _ _ _ => Int.le_antisymm) hw hz h
def sp_lratio (K : PySem.W.Frag) : Sp := fun vs H Q _ => ∃ (n : Int) (c d : Addr) (v : V) (xs : List V) (l dom : List (Int × Int)) (f : Int × Int → Int × Int) (p : Int × Int), vs = [.int n, .ref c, .ref d, v] ∧ 3 ≤ n ∧ n ≤ 12 ∧ H c = some (.lst xs) ∧ PrL K H xs l ∧ l.length ≤ 100 ∧ IsCut n l ∧ PrAt K H v p ∧ p ∈ l ∧
  FD K H d dom f ∧ (∀ p ∈ tiesS n l, p ∈ dom ∧ Frac 1000 (f p)) ∧ ∀ H' v, Same H H' → PrAt K H' v (rateL n l f p) → Q v H'
theorem ok__law_ratio (T : Env K mg) : FnOk P w K mg base CX0 4 T.a__law_ratio T.fd__law_ratio ["_law_n", "_law_cut", "_law_sized_here", "_law_rope"] (sp_lratio K) := by
  refine T.F__law_ratio.ok sc__law_ratio (fun vs H Q E h => ?_) (fun cdv A outer s H vs Q E hr h => ?_)
  · obtain ⟨n, c, d, v, xs, l, dom, f, p, rfl, _⟩ := h
    rfl
  · obtain ⟨n, c, d, v, xs, l, dom, f, p, rfl, h3, h12, hc, hL, hl, hC, hv, hp, hF, hD, k⟩ := h
    refine ⟨_, (pss_cons (ps_set (i := 4) sc__law_ratio.nd rfl (.inl rfl) (pe_call (ok__law_ring T) (hr.mono (by decide)) (by rfl) T.g__law_ring T.F__law_ring.kp T.b__law_ring .nil pass0 (pa_cons (pv 0) (pa_cons (pv 1) (pa_cons (pv 3) pa_nil)))))
 (C8.pss_cut (ps_if (pt_cmpR op_ne (pe_ix ix_list (pv 4) pe_int (fun _ _ => rfl)) (pe_ix ix_tup (pv 3) pe_int (fun _ _ => rfl)) (nomark _))
 (pss_one (ps_set (i := 4) sc__law_ratio.nd rfl (.inl rfl) (pe_op op_cat (pe_slice sl_list (pv 4) (po_some pe_int) po_none) (pe_slice sl_list (pv 4) po_none (po_some pe_int)))))
 pss_nil)
 (pss_cons (ps_set (i := 5) sc__law_ratio.nd rfl (.inl rfl) (pe_call (ok__law_mul T) (hr.mono (by decide)) (by rfl) T.g__law_mul T.F__law_mul.kp T.b__law_mul .nil pass0 (pa_cons (pe_dget (hu_of hr) (pv 2) (pe_call (ok__law_pair T) (hr.mono (by decide)) (by rfl) T.g__law_pair T.F__law_pair.kp T.b__law_pair .nil pass0 (pa_cons (pe_ix ix_list (pv 4) pe_int (fun _ _ => rfl)) (pa_cons (pe_ix ix_list (pv 4) pe_int (fun _ _ => rfl)) pa_nil))) (fun _ _ => rfl)) (pa_cons (pe_dget (hu_of hr) (pv 2) (pe_call (ok__law_pair T) (hr.mono (by decide)) (by rfl) T.g__law_pair T.F__law_pair.kp T.b__law_pair .nil pass0 (pa_cons (pe_ix ix_list (pv 4) pe_int (fun _ _ => rfl)) (pa_cons (pe_ix ix_list (pv 4) pe_int (fun _ _ => rfl)) pa_nil))) (fun _ _ => rfl)) pa_nil))))
 (pss_cons (ps_set (i := 6) sc__law_ratio.nd rfl (.inl rfl) (pe_call (ok__law_mul T) (hr.mono (by decide)) (by rfl) T.g__law_mul T.F__law_mul.kp T.b__law_mul .nil pass0 (pa_cons (pe_dget (hu_of hr) (pv 2) (pe_call (ok__law_pair T) (hr.mono (by decide)) (by rfl) T.g__law_pair T.F__law_pair.kp T.b__law_pair .nil pass0 (pa_cons (pe_ix ix_list (pv 4) pe_int (fun _ _ => rfl)) (pa_cons (pe_ix ix_list (pv 4) pe_int (fun _ _ => rfl)) pa_nil))) (fun _ _ => rfl)) (pa_cons (pe_dget (hu_of hr) (pv 2) (pe_call (ok__law_pair T) (hr.mono (by decide)) (by rfl) T.g__law_pair T.F__law_pair.kp T.b__law_pair .nil pass0 (pa_cons (pe_ix ix_list (pv 4) pe_int (fun _ _ => rfl)) (pa_cons (pe_ix ix_list (pv 4) pe_int (fun _ _ => rfl)) pa_nil))) (fun _ _ => rfl)) pa_nil))))
 (pss_one (ps_ret (pe_call (ok__law_div T) (hr.mono (by decide)) (by rfl) T.g__law_div T.F__law_div.kp T.b__law_div .nil pass0 (pa_cons (pv 5) (pa_cons (pv 6) pa_nil))))))))), ?_⟩
    obtain ⟨x, y, hT⟩ := turns hC hp
    have hAr := round hT
    have hpl := cut_lt hC hp
    rw [rateL_at hT] at k
    refine ⟨_, rfl, _, rfl, _, rfl, n, c, v, xs, l, p, x, y, rfl, h3, h12, hc, hL, hl, hv, hT, fun H1 q ws s1 hq hwp hws => ?_⟩
    obtain ⟨t, rfl, ht⟩ := hv
    have hT1 : SqT K H1 t [.int p.1, .int p.2] := .inl (.inl (s1 _ _ ht))
    have hQ1 : SqL K H1 q (ws.map V.int) := .inl (.inl hq)
    have T1 := hD _ hAr.lm
    have T2 := hD _ hAr.hz
    have T3 := hD _ (by have := hAr.hm; rw [pr_comm] at this; exact this)
    have T4 := hD _ (by have := hAr.lz; rw [pr_comm] at this; exact this)
    have hpm : [p.1, p.2, x, y].Perm [p.1, mOf p x y, p.2, zOf p x y] := by
      unfold mOf zOf
      split
      · exact .cons _ (.swap ..)
      · exact .cons _ (List.perm_append_comm (l₁ := [p.2, x]) (l₂ := [y]))
    have hm0 := hAr.m0
    have hm1 := hAr.m1
    have hout := hAr.out
    generalize mOf p x y = m at *
    generalize zOf p x y = z at *
    refine ⟨fun σ H' => ∃ r, σ = [some (.int n), some (.ref c), some (.ref d), some (.ref t), some (.ref r), none, none] ∧ Same H H' ∧ H' r = some (.lst [.int p.1, .int m, .int p.2, .int z]), ?_, ?_⟩
    · rcases hout with ho | ho
      · have ew : ws = [z, p.1, m, p.2] := sort4 (hwp.trans (hpm.trans (List.perm_append_comm (l₁ := [p.1, m, p.2]) (l₂ := [z])))) hws (by simp; omega)
        subst ew
        refine ⟨_, rfl, q, _, _, _, rfl, rfl, hQ1, atI_nat (j := 0) rfl, _, rfl, t, _, _, _, rfl, rfl, hT1, atI_nat (j := 0) rfl, rfl, _, rfl, ?_⟩
        show if (!decide (V.int z = V.int p.1)) = true then _ else _
        rw [decide_eq_false (fun e => by have := V.int.inj e; omega)]
        refine iteT ?_
        refine ⟨_, rfl, 1, rfl, q, _, rfl, hQ1, fun c1 h1 => ?_⟩
        have u1 := same_new (o := .lst (cutV ([z, p.1, m, p.2].map V.int) (some (((1 : Nat) : Int))) none)) h1
        have e1 : (upd H1 c1 (.lst (cutV ([z, p.1, m, p.2].map V.int) (some (((1 : Nat) : Int))) none))) c1 = some (.lst [.int p.1, .int m, .int p.2]) := by rw [upd_same, cut_drop]; rfl
        generalize upd H1 c1 (.lst (cutV ([z, p.1, m, p.2].map V.int) (some (((1 : Nat) : Int))) none)) = H2 at *
        refine ⟨_, rfl, 1, rfl, q, _, rfl, u1.seq hQ1, fun c2 h2 => ?_⟩
        have u2 := same_new (o := .lst (cutV ([z, p.1, m, p.2].map V.int) none (some (((1 : Nat) : Int))))) h2
        have e2 : (upd H2 c2 (.lst (cutV ([z, p.1, m, p.2].map V.int) none (some (((1 : Nat) : Int)))))) c2 = some (.lst [.int z]) := by rw [upd_same, cut_take]; rfl
        generalize upd H2 c2 (.lst (cutV ([z, p.1, m, p.2].map V.int) none (some (((1 : Nat) : Int))))) = H3 at *
        refine ⟨c1, c2, _, _, rfl, rfl, u2 _ _ e1, e2, small200 (by show 4 ≤ 200; decide), fun c3 h3' => ?_⟩
        have u3 := same_new (o := .lst ([.int p.1, .int m, .int p.2] ++ [.int z])) h3'
        exact ⟨c3, rfl, ((s1.trans u1).trans u2).trans u3, upd_same⟩
      · have ew := sort4 (hwp.trans hpm) hws (by simp; omega)
        subst ew
        refine ⟨_, rfl, q, _, _, _, rfl, rfl, hQ1, atI_nat (j := 0) rfl, _, rfl, t, _, _, _, rfl, rfl, hT1, atI_nat (j := 0) rfl, rfl, _, rfl, iteNS rfl ?_⟩
        exact ⟨q, rfl, s1, hq⟩
    · rintro _ H2 ⟨r, rfl, s2, hr2⟩
      have RH2 : SqL K H2 r [.int p.1, .int m, .int p.2, .int z] := .inl (.inl hr2)
      have FH2 := hF.mono s2
      refine ⟨_, rfl, _, rfl, r, _, _, _, rfl, rfl, RH2, atI_nat (j := 0) rfl, _, rfl, r, _, _, _, rfl, rfl, RH2, atI_nat (j := 1) rfl, p.1, m, rfl, fun u1 hu1 => ?_⟩
      have t1 := same_new (o := (.tup [.int (pr p.1 m).1, .int (pr p.1 m).2])) hu1
      have k1 : (upd H2 u1 (.tup [.int (pr p.1 m).1, .int (pr p.1 m).2])) u1 = some (.tup [.int (pr p.1 m).1, .int (pr p.1 m).2]) := upd_same
      generalize upd H2 u1 (.tup [.int (pr p.1 m).1, .int (pr p.1 m).2]) = H3 at *
      have RH3 := t1.seq RH2
      have FH3 := FD.mono t1 FH2
      obtain ⟨⟨kv1, e1, r1⟩, _, _⟩ := id FH3
      obtain ⟨v1, g1, q1⟩ := Ents.get r1 T1.1
      refine ⟨d, v1, rfl, (by rw [← g1]; exact DGet.t e1 (key_pk k1)), ?_⟩
      refine ⟨_, rfl, _, rfl, r, _, _, _, rfl, rfl, RH3, atI_nat (j := 2) rfl, _, rfl, r, _, _, _, rfl, rfl, RH3, atI_nat (j := 3) rfl, p.2, z, rfl, fun u2 hu2 => ?_⟩
      have t2 := same_new (o := (.tup [.int (pr p.2 z).1, .int (pr p.2 z).2])) hu2
      have k2 : (upd H3 u2 (.tup [.int (pr p.2 z).1, .int (pr p.2 z).2])) u2 = some (.tup [.int (pr p.2 z).1, .int (pr p.2 z).2]) := upd_same
      generalize upd H3 u2 (.tup [.int (pr p.2 z).1, .int (pr p.2 z).2]) = H4 at *
      have RH4 := t2.seq RH3
      have FH4 := FD.mono t2 FH3
      obtain ⟨⟨kv2, e2, r2⟩, _, _⟩ := id FH4
      obtain ⟨v2, g2, q2⟩ := Ents.get r2 T2.1
      refine ⟨d, v2, rfl, (by rw [← g2]; exact DGet.t e2 (key_pk k2)), ?_⟩
      refine ⟨v1, v2, _, _, rfl, PrAt.mono t2 q1, q2, T1.2.more (by decide), T2.2.more (by decide), fun H5 w1 t5 hw1 => ?_⟩
      have RH5 := t5.seq RH4
      have FH5 := FD.mono t5 FH4
      refine ⟨_, rfl, _, rfl, r, _, _, _, rfl, rfl, RH5, atI_nat (j := 1) rfl, _, rfl, r, _, _, _, rfl, rfl, RH5, atI_nat (j := 2) rfl, m, p.2, rfl, fun u3 hu3 => ?_⟩
      have t3 := same_new (o := (.tup [.int (pr m p.2).1, .int (pr m p.2).2])) hu3
      have k3 : (upd H5 u3 (.tup [.int (pr m p.2).1, .int (pr m p.2).2])) u3 = some (.tup [.int (pr m p.2).1, .int (pr m p.2).2]) := upd_same
      generalize upd H5 u3 (.tup [.int (pr m p.2).1, .int (pr m p.2).2]) = H6 at *
      have RH6 := t3.seq RH5
      have FH6 := FD.mono t3 FH5
      obtain ⟨⟨kv3, e3, r3⟩, _, _⟩ := id FH6
      obtain ⟨v3, g3, q3⟩ := Ents.get r3 T3.1
      refine ⟨d, v3, rfl, (by rw [← g3]; exact DGet.t e3 (key_pk k3)), ?_⟩
      refine ⟨_, rfl, _, rfl, r, _, _, _, rfl, rfl, RH6, atI_nat (j := 3) rfl, _, rfl, r, _, _, _, rfl, rfl, RH6, atI_nat (j := 0) rfl, z, p.1, rfl, fun u4 hu4 => ?_⟩
      have t4 := same_new (o := (.tup [.int (pr z p.1).1, .int (pr z p.1).2])) hu4
      have k4 : (upd H6 u4 (.tup [.int (pr z p.1).1, .int (pr z p.1).2])) u4 = some (.tup [.int (pr z p.1).1, .int (pr z p.1).2]) := upd_same
      generalize upd H6 u4 (.tup [.int (pr z p.1).1, .int (pr z p.1).2]) = H7 at *
      have RH7 := t4.seq RH6
      have FH7 := FD.mono t4 FH6
      obtain ⟨⟨kv4, e4, r4⟩, _, _⟩ := id FH7
      obtain ⟨v4, g4, q4⟩ := Ents.get r4 T4.1
      refine ⟨d, v4, rfl, (by rw [← g4]; exact DGet.t e4 (key_pk k4)), ?_⟩
      refine ⟨v3, v4, _, _, rfl, PrAt.mono t4 q3, q4, T3.2.more (by decide), T4.2.more (by decide), fun H8 w2 t8 hw2 => ?_⟩
      refine ⟨_, rfl, _, rfl, w1, w2, _, _, rfl, PrAt.mono ((t3.trans t4).trans t8) hw1, hw2, (mulV_frac T1.2 T2.2).more (by decide), (mulV_frac T3.2 T4.2).more (by decide), fun H9 v9 t9 hv9 => ?_⟩
      exact k H9 v9 (s2.trans ((((((t1.trans t2).trans t5).trans t3).trans t4).trans t8).trans t9)) hv9
def sp_lratios (K : PySem.W.Frag) : Sp := fun vs H Q _ => ∃ (n : Int) (c d : Addr) (xs : List V) (l dom : List (Int × Int)) (f : Int × Int → Int × Int), vs = [.int n, .ref c, .ref d] ∧ 3 ≤ n ∧ n ≤ 12 ∧ H c = some (.lst xs) ∧ PrL K H xs l ∧ l.length ≤ 100 ∧ IsCut n l ∧
  FD K H d dom f ∧ (∀ p ∈ tiesS n l, p ∈ dom ∧ Frac 1000 (f p)) ∧ ∀ H' D, Same H H' → H D = none → FD K H' D l (rateL n l f) → Q (.ref D) H'
theorem ok__law_ratios (T : Env K mg) : FnOk P w K mg base CX0 5 T.a__law_ratios T.fd__law_ratios ["_law_n", "_law_cut", "_law_sized_here"] (sp_lratios K) := by
  refine T.F__law_ratios.ok sc__law_ratios (fun vs H Q E h => ?_) (fun cdv A outer s H vs Q E hr h => ?_)
  · obtain ⟨n, c, d, xs, l, dom, f, rfl, _⟩ := h
    rfl
  · obtain ⟨n, c, d, xs, l, dom, f, rfl, h3, h12, hc, hL, hl, hC, hF, hD, k⟩ := h
    refine ⟨_, (pss_cons (ps_set (i := 3) sc__law_ratios.nd rfl (.inl rfl) pe_dnewT)
 (pss_cons (ps_for PassesOwn.never rfl (pi_list (pv 1)) (pg_name (i := 4) sc__law_ratios.nd rfl (.inl rfl))
 (pss_one (ps_dput (hu_of hr) (pv 3) (pv 4) (pe_call (ok__law_ratio T) (hr.mono (by decide)) (by rfl) T.g__law_ratio T.F__law_ratio.kp T.b__law_ratio .nil pass0 (pa_cons (pv 0) (pa_cons (pv 1) (pa_cons (pv 2) (pa_cons (pv 4) pa_nil))))) rfl)))
 (pss_one (ps_ret (pv 3))))), ?_⟩
    have hxl := hL.length
    intro D hD0
    have s1 : Same H _ := same_new (o := .dT []) hD0
    refine ⟨_, rfl, c, rfl, ⟨_, .inl (.inl (s1 _ _ hc))⟩, for_list (K := K) (a := c) (xs := xs) (fun i σ H' => ∃ y, σ = [some (.int n), some (.ref c), some (.ref d), some (.ref D), y] ∧ Same H H' ∧ FD K H' D (l.take i) (rateL n l f)) ⟨_, rfl, s1, by rw [List.take_zero]; exact FD.nil upd_same⟩ ?_ ?_ ?_⟩
    · rintro i σ H' _ ⟨y, _, s3, _⟩
      exact .inl (.inl (s3 _ _ hc))
    · rintro i x' σ H' hi ⟨y, rfl, s3, hFi⟩
      obtain ⟨p, hp, u, rfl, hu⟩ := hL.at hi
      have hil : i < xs.length := (List.getElem?_eq_some_iff.mp hi).1
      have hpm : p ∈ l := List.mem_of_getElem? hp
      have hpl := cut_lt hC hpm
      refine ⟨_, rfl, _, rfl, _, rfl, _, rfl, n, c, d, .ref u, xs, l, dom, f, p, rfl, h3, h12, s3 _ _ hc, hL.mono s3, hl, hC, ⟨u, rfl, s3 _ _ hu⟩, hpm, hF.mono s3, hD, fun H5 v s5 hv => ?_⟩
      obtain ⟨⟨kvs, e1, e2⟩, nd, sm⟩ := hFi.mono s5
      have htk : p ∉ l.take i := fun hm => by
        obtain ⟨j, hj⟩ := List.getElem?_of_mem hm
        have hjl := (List.getElem?_eq_some_iff.mp hj).1
        rw [List.length_take] at hjl
        rw [List.getElem?_take_of_lt (by omega)] at hj
        have := nodup_at hC.nd hj hp
        omega
      have hfew := e2.length
      rw [List.length_take] at hfew
      refine ⟨_, rfl, _, rfl, D, _, rfl, DPut.t e1 (key_pk ((s3.trans s5) _ _ hu)) (small200' (by omega)), ?_⟩
      refine ⟨_, rfl, same_put (s3.trans s5) hD0, ?_⟩
      rw [take_more hp]
      refine FD.val (FD.put nd sm e1 e2 htk ⟨hpl.1, by omega, by omega, by omega⟩ hv) fun q _ => ?_
      unfold setF
      split
      · next e => rw [e]
      · rfl
    · rintro σ H' ⟨y, rfl, s3, hFi⟩
      rw [List.take_of_length_le (by omega)] at hFi
      exact ⟨_, rfl, k H' D s3 hD0 hFi⟩

theorem side_rope {n : Int} {l : List (Int × Int)} (hC : IsCut n l) {u : Int × Int} (hu : u ∈ sidesL n) (hv : u ∈ l) : False := by
  obtain ⟨T, _, hT⟩ := hC.ex
  have hw := ((hT u.1 u.2).mp hv).2
  unfold sidesL at hu
  rcases List.mem_append.mp hu with z | z
  · obtain ⟨k, _, ek⟩ := List.mem_map.mp z
    rw [← ek] at hw
    have := hw.1
    omega
  · rw [List.mem_singleton.mp z] at hw
    exact hw.2 ⟨rfl, rfl⟩
theorem ties_nodup {n : Int} {l : List (Int × Int)} (hC : IsCut n l) : (tiesS n l).Nodup := by
  have h3 := hC.three
  refine sort2_nodup (List.nodup_append.mpr ⟨?_, hC.nd, ?_⟩)
  · unfold sidesL
    refine List.nodup_append.mpr ⟨?_, by simp, ?_⟩
    · have hr : (rng (n - 1)).Nodup := (rng_sorted _).imp (fun h => by omega)
      exact List.pairwise_map.mpr (hr.imp fun h e => h (Prod.mk.inj e).1)
    · intro u hu v hv e
      obtain ⟨k, _, ek⟩ := List.mem_map.mp hu
      rw [List.mem_singleton.mp hv] at e
      rw [← ek] at e
      have := Prod.mk.inj e
      omega
  · intro u hu v hv e
    subst e
    exact side_rope hC hu hv
theorem ties_small {n : Int} {l : List (Int × Int)} (hC : IsCut n l) (h12 : n ≤ 12) : ∀ p ∈ tiesS n l, smallP p := fun p hp => by
  have h3 := hC.three
  rcases List.mem_append.mp (sort2_mem.mp hp) with z | z
  · unfold sidesL at z
    rcases List.mem_append.mp z with z | z
    · obtain ⟨k, hk, ek⟩ := List.mem_map.mp z
      have := mem_rng.mp hk
      rw [← ek]
      exact ⟨by show 0 ≤ k; omega, by show k < 13; omega, by show 0 ≤ k + 1; omega, by show k + 1 < 13; omega⟩
    · rw [List.mem_singleton.mp z]
      exact ⟨by show (0 : Int) ≤ 0; omega, by show (0 : Int) < 13; omega, by show 0 ≤ n - 1; omega, by show n - 1 < 13; omega⟩
  · have := cut_lt hC z
    exact ⟨this.1, by omega, by omega, by omega⟩
theorem ties_count {n : Int} {l : List (Int × Int)} (hC : IsCut n l) : (tiesS n l).length = n.toNat + l.length := by
  unfold tiesS
  rw [sort2_len, List.length_append, sidesL_len hC.three]

theorem sw_trueD {kx vx : Expr} {gs : List Comprehension} {scope : Scope} {pos py : Pos} {y : Str} {l : Nat} {env : PySem.Env} (hk : env.scope.kind = .function) (hy : env.scope.names.lookup y = some .local) (hl : (py.line == pos.line) = true)
    (ha : (scope.names.any fun (n, k) => n == y && (k == .local || k == .cell)) = false) : swapsWith (.DictComp kx vx gs scope pos) (some (.Name y py)) l env = pure true := by
  have b1 : env.blockKind = .function := by unfold Env.blockKind; rw [hk]; rfl
  have b2 : env.kindOf y = some .local := hy
  unfold swapsWith
  simp only [b1, b2, ha, Expr.pos, hl]
  rfl

/-! ### d.pop(k), tuples as keys: it is there -/
section
variable {X : Cx} {P : Program} {w : World}
theorem meetsPop1 {κ : Type} [DecidableEq κ] {knd : HeapKind P w κ} {d b : Addr} {k : κ} (hd : (d == sysModules) = false) :
    MeetsIn P w (Builtin.«dict.pop» ⟨[.ref d, .ref b], []⟩) (fun A R s => ∃ xs p, knd.room A.in1 ∧ knd.is s.heap k b ∧ s.heap.DictOfH knd d xs ∧ xs.length ≤ sizeLine ∧ PySem.atKey xs k = some p ∧
      ∀ h' tk, h'.DictOfH knd d (DT.dropH xs k) → Heap.SameBut d s.heap h' → R (.ok (.ret p.2)) { s with heap := h', toks := tk }) :=
  .of_wp fun A R s ⟨xs, p0, hu, hkey, hm, hsz, hat, hsome⟩ => by
    obtain ⟨o, es, ep, ho, hc, hdat, he, his, hn⟩ := id hm
    have hes : es.size = xs.length := size_of_entries he
    have hpart : (keyPart (Value.ref b)).isSome = false := rfl
    unfold Builtin.«dict.pop»
    refine wpAny_bind ?_
    unfold Builtin.Dict.keyAndDefault
    refine wpAny_bind (wpAny_notOrdered_dict hm.typeIs ?_)
    show wpAny _ _ (pure (d, Value.ref b, none)) _ _ s
    refine wpAny_pure ?_
    simp only [hpart, Bool.false_eq_true, if_false]
    refine wpAny_bind (wpAny_dictEntries ho hdat (wpAny_bind (wpAny_pure ?_)))
    cases hem : es.isEmpty with
    | true =>
      have h0 : xs = [] := by
        have z : es.size = 0 := by simpa using hem
        exact List.length_eq_zero_iff.mp (by omega)
      rw [h0] at hat
      exact nomatch hat
    | false =>
      simp only [Bool.false_eq_true, if_false]
      refine wpAny_bind (DT.takeH hu hkey hm hsz (fun hno => ?_) fun p e hp hev h' hm' hs' => ?_)
      · rw [hat] at hno
        exact nomatch hno
      · simp only [Option.isNone_some, Bool.false_eq_true, if_false]
        rw [hat] at hp
        cases hp
        exact wpAny_bind (wpAny_letGo (wpAny_pure ⟨e.val, rfl, by rw [hev]; exact hsome h' _ hm' hs'⟩))
def rPop1T : V → List V → Hp → VK → Prop := fun x xs H Q => ∃ (a : Addr) (kvs : List (List L2.Key × V)) (k : List L2.Key) (b : Addr) (v : V), x = .ref a ∧ xs = [.ref b] ∧ H a = some (.dT kvs) ∧ H b = some (.tup (k.map kV)) ∧
  valV kvs k = some v ∧ Q v (upd H a (.dT (dropK kvs k)))
theorem mt_pop1T (hu : X.A.units + 1 < cLine) : MtR X "dict.pop" rPop1T := by
  intro pins s σ H x xs v us Q I rx rxs h
  obtain ⟨a, kvs, k, b, v0, rfl, rfl, ha, hb, ev, q1⟩ := h
  cases rx
  obtain ⟨u1, rfl, r1⟩ := vals1 rxs
  cases r1
  obtain ⟨z, hd, xs', rel, dd⟩ := dt_of I.hok ha
  have hz : xs'.length ≤ sizeLine := by rw [← Paired.length rel]; exact z
  have r := rel.val k
  rw [ev] at r
  obtain ⟨p, hp, rv⟩ : ∃ p, PySem.atKey xs' k = some p ∧ RelV v0 p.2 := by
    cases hp : PySem.atKey xs' k with
    | none =>
      rw [hp] at r
      exact (show False from r).elim
    | some p =>
      rw [hp] at r
      exact ⟨p, rfl, r⟩
  refine call_meetsIn PySem.F.slot_dict_pop dd.typeIs PySem.F.entry_dict_pop (PySem.F.args_dict_pop_2 _ _) (meetsPop1 (knd := tupleKind (mixKind X.prog X.w)) (k := k) hd)
    ⟨xs', p, tupleKind_room_in1 hu, key_of I.hok hb, dd, hz, hp, fun h' tk dd' hs => ?_⟩
  obtain ⟨o, es, ep, hq, h2, h3, h4, _, h5⟩ := dd'
  have I2 : Inv X pins σ (upd H a (.dT (dropK kvs k))) { s with heap := h', toks := tk } :=
    d_write I (by rw [ha]; exact True.intro) hs ⟨o, hq⟩ ⟨Nat.le_trans (dropK_le kvs k) z, hd, _, (L2.DX.KT_drop k rel).keeps (fun c ys ec => (by rw [upd_ne (ne_of ec ha (fun z => nomatch z))]; exact ec)), o, es, ep, hq, h2, h3, h4, h5⟩
  show EP X pins σ Q p.2 _
  exact ⟨v0, _, I2, rv, q1⟩
end

/-! ### the length across a rope -/
/-- of the pair q, by the rope p that it crosses -/
def acrV (f : Int × Int → Int × Int) (p q : Int × Int) : Int × Int := divV (addV (mulV (f (pr q.1 p.1)) (f (pr q.2 p.2))) (mulV (f (pr q.1 p.2)) (f (pr q.2 p.1)))) (f p)
theorem div_back {a b : Nat} {S z : Int × Int} (hS : Frac a S) (hz : Frac b z) : divV S (divV S z) = z := by
  have hp1 := Int.mul_pos hS.low.pos hz.top
  obtain ⟨L1, e1, _, _⟩ := lowI_ok (t := S.1 * z.2) (b := S.2 * z.1) (by omega)
  have fw := divV_frac hS hz
  have ew : divV S z = lowI (S.1 * z.2) (S.2 * z.1) := rfl
  rw [← ew] at e1
  generalize divV S z = w at *
  have hp2 := Int.mul_pos hS.low.pos fw.top
  obtain ⟨L2, e2, _, _⟩ := lowI_ok (t := S.1 * w.2) (b := S.2 * w.1) (by omega)
  have er : divV S w = lowI (S.1 * w.2) (S.2 * w.1) := rfl
  rw [← er] at L2 e2
  generalize divV S w = r at *
  have key : (S.2 * w.1) * (r.1 * z.2) = (S.2 * w.1) * (z.1 * r.2) := by
    have h1 : (S.2 * w.1) * (r.1 * z.2) = (r.1 * (S.2 * w.1)) * z.2 := by ac_rfl
    have h2 : (r.2 * (S.1 * w.2)) * z.2 = r.2 * (w.2 * (S.1 * z.2)) := by ac_rfl
    have h3 : (S.2 * w.1) * (z.1 * r.2) = r.2 * (w.1 * (S.2 * z.1)) := by ac_rfl
    rw [h1, e2, h2, ← e1, h3]
  have := low_same L2 hz.low (Int.eq_of_mul_eq_mul_left (by omega) key)
  exact Prod.ext this.1 this.2
theorem acrV_frac {b : Nat} {f : Int × Int → Int × Int} {p q : Int × Int} (h1 : Frac b (f (pr q.1 p.1))) (h2 : Frac b (f (pr q.2 p.2))) (h3 : Frac b (f (pr q.1 p.2))) (h4 : Frac b (f (pr q.2 p.1))) (h5 : Frac b (f p)) : Frac (b + b + (b + b) + 1 + b) (acrV f p q) :=
  divV_frac (addV_frac (mulV_frac h1 h2) (mulV_frac h3 h4)) h5
/-- and back again -/
theorem acr_back {b : Nat} {f g : Int × Int → Int × Int} {p q : Int × Int} (h1 : Frac b (f (pr q.1 p.1))) (h2 : Frac b (f (pr q.2 p.2))) (h3 : Frac b (f (pr q.1 p.2))) (h4 : Frac b (f (pr q.2 p.1))) (h5 : Frac b (f p))
    (g1 : g (pr q.1 p.1) = f (pr q.1 p.1)) (g2 : g (pr q.2 p.2) = f (pr q.2 p.2)) (g3 : g (pr q.1 p.2) = f (pr q.1 p.2)) (g4 : g (pr q.2 p.1) = f (pr q.2 p.1)) (gq : g q = acrV f p q) : acrV g q p = f p := by
  have e : addV (mulV (g (pr p.1 q.1)) (g (pr p.2 q.2))) (mulV (g (pr p.1 q.2)) (g (pr p.2 q.1))) = addV (mulV (f (pr q.1 p.1)) (f (pr q.2 p.2))) (mulV (f (pr q.1 p.2)) (f (pr q.2 p.1))) := by
    rw [pr_comm p.1 q.1, pr_comm p.2 q.2, pr_comm p.1 q.2, pr_comm p.2 q.1, g1, g2, g3, g4, mulV_comm (f (pr q.2 p.1))]
  have e2 : acrV g q p = divV (addV (mulV (g (pr p.1 q.1)) (g (pr p.2 q.2))) (mulV (g (pr p.1 q.2)) (g (pr p.2 q.1)))) (g q) := rfl
  rw [e2, e, gq]
  exact div_back (addV_frac (mulV_frac h1 h2) (mulV_frac h3 h4)) h5

/-! ### fractions as rationals -/
def vq (x : Int × Int) : Rat := (x.1 : Rat) / (x.2 : Rat)
theorem cast_ne {b : Int} (h : b ≠ 0) : (b : Rat) ≠ 0 := fun e => h (Rat.intCast_inj.mp (by rw [e]; rfl))
theorem vq_low {t b : Int} (h : b ≠ 0) : vq (lowI t b) = (t : Rat) / (b : Rat) := by
  obtain ⟨L, e, _, _⟩ := lowI_ok (t := t) h
  have hp := L.pos
  have h2 : ((lowI t b).2 : Rat) ≠ 0 := cast_ne (by omega)
  have hb := cast_ne h
  have e' : ((lowI t b).1 : Rat) * (b : Rat) = ((lowI t b).2 : Rat) * (t : Rat) := by
    rw [← Rat.intCast_mul, ← Rat.intCast_mul, e]
  unfold vq
  grind
theorem vq_inj {x y : Int × Int} (hx : Low x.1 x.2) (hy : Low y.1 y.2) (h : vq x = vq y) : x = y := by
  have h1 : (x.2 : Rat) ≠ 0 := cast_ne (by have := hx.pos; omega)
  have h2 : (y.2 : Rat) ≠ 0 := cast_ne (by have := hy.pos; omega)
  have e : (x.1 : Rat) * (y.2 : Rat) = (y.1 : Rat) * (x.2 : Rat) := by
    unfold vq at h
    grind
  rw [← Rat.intCast_mul, ← Rat.intCast_mul] at e
  have := low_same hx hy (Rat.intCast_inj.mp e)
  exact Prod.ext this.1 this.2
theorem Frac.n1 {b : Nat} {x : Int × Int} (h : Frac b x) : (x.1 : Rat) ≠ 0 := cast_ne (by have := h.top; omega)
theorem Frac.n2 {b : Nat} {x : Int × Int} (h : Frac b x) : (x.2 : Rat) ≠ 0 := cast_ne (by have := h.low.pos; omega)
theorem vq_mul {a b : Nat} {x y : Int × Int} (hx : Frac a x) (hy : Frac b y) : vq (mulV x y) = vq x * vq y := by
  have h1 := hx.n2
  have h2 := hy.n2
  unfold mulV
  rw [vq_low (by have := Int.mul_pos hx.low.pos hy.low.pos; omega), Rat.intCast_mul, Rat.intCast_mul]
  unfold vq
  grind
theorem vq_div {a b : Nat} {x y : Int × Int} (hx : Frac a x) (hy : Frac b y) : vq (divV x y) = vq x / vq y := by
  have h1 := hx.n2
  have h2 := hy.n2
  have h3 := hy.n1
  unfold divV
  rw [vq_low (by have := Int.mul_pos hx.low.pos hy.top; omega), Rat.intCast_mul, Rat.intCast_mul]
  unfold vq
  grind
theorem vq_add {a b : Nat} {x y : Int × Int} (hx : Frac a x) (hy : Frac b y) : vq (addV x y) = vq x + vq y := by
  have h1 := hx.n2
  have h2 := hy.n2
  unfold addV
  rw [vq_low (by have := Int.mul_pos hx.low.pos hy.low.pos; omega), Rat.intCast_add, Rat.intCast_mul, Rat.intCast_mul, Rat.intCast_mul]
  unfold vq
  grind
theorem vq_ne {b : Nat} {x : Int × Int} (h : Frac b x) : vq x ≠ 0 := by
  have h1 := h.n1
  have h2 := h.n2
  unfold vq
  grind
theorem one_frac : Frac 1 (1, 1) := ⟨by decide, ⟨by decide, by decide⟩, by decide, by decide⟩
theorem vq_one : vq (1, 1) = 1 := by
  unfold vq
  show ((1 : Int) : Rat) / ((1 : Int) : Rat) = 1
  rw [Rat.intCast_one]
  grind

/-! ### the ratios behind a turning -/
theorem tie_bd {n : Int} {l : List (Int × Int)} (hC : IsCut n l) {p : Int × Int} (hp : p ∈ tiesS n l) : 0 ≤ p.1 ∧ p.1 < p.2 ∧ p.2 < n := by
  have h3 := hC.three
  rcases List.mem_append.mp (sort2_mem.mp hp) with z | z
  · unfold sidesL at z
    rcases List.mem_append.mp z with z | z
    · obtain ⟨k, hk, ek⟩ := List.mem_map.mp z
      have := mem_rng.mp hk
      rw [← ek]
      exact ⟨by show 0 ≤ k; omega, by show k < k + 1; omega, by show k + 1 < n; omega⟩
    · rw [List.mem_singleton.mp z]
      exact ⟨by show (0 : Int) ≤ 0; omega, by show (0 : Int) < n - 1; omega, by show n - 1 < n; omega⟩
  · have := cut_lt hC z
    exact ⟨this.1, by omega, this.2.2⟩
theorem bes_of {n : Int} {l : List (Int × Int)} (hC : IsCut n l) {a b s : Int} (h1 : pr a s ∈ tiesS n l) (h2 : pr b s ∈ tiesS n l) : s ∈ besL (tiesS n l) n a b := by
  have := tie_bd hC h1
  unfold pr at this
  unfold besL
  refine List.mem_filter.mpr ⟨mem_rng.mpr (by simp only at this; omega), ?_⟩
  rw [decide_eq_true h1, decide_eq_true h2]
  rfl
theorem rate_in {n : Int} {l : List (Int × Int)} {f : Int × Int → Int × Int} (hC : IsCut n l) {r : Int × Int} (hr : r ∈ l) {s w : Int} (s1 : pr r.1 s ∈ tiesS n l) (s2 : pr r.2 s ∈ tiesS n l) (si : r.1 < s ∧ s < r.2)
    (w1 : pr r.1 w ∈ tiesS n l) (w2 : pr r.2 w ∈ tiesS n l) (wo : w < r.1 ∨ r.2 < w) : rateL n l f r = rateV f r s w := by
  obtain ⟨x, y, hT⟩ := turns hC hr
  rw [rateL_at hT]
  have hs := bes_of hC s1 s2
  have hw := bes_of hC w1 w2
  rw [hT.bes] at hs hw
  have hc := hT.crs
  simp only [List.mem_cons, List.not_mem_nil, or_false] at hs hw
  unfold mOf zOf
  by_cases g : r.1 < x ∧ x < r.2
  · rw [if_pos g, if_pos g, show x = s by omega, show y = w by omega]
  · rw [if_neg g, if_neg g, show y = s by omega, show x = w by omega]
/-- what stands at a tie round the rope -/
def Lq (f : Int × Int → Int × Int) (a b : Int) : Rat := vq (f (pr a b))
theorem Lq_comm (f : Int × Int → Int × Int) (a b : Int) : Lq f a b = Lq f b a := by unfold Lq; rw [pr_comm]
theorem rateV_q {b : Nat} {f : Int × Int → Int × Int} {p : Int × Int} {m z : Int} (h1 : Frac b (f (pr p.1 m))) (h2 : Frac b (f (pr p.2 z))) (h3 : Frac b (f (pr m p.2))) (h4 : Frac b (f (pr z p.1))) :
    vq (rateV f p m z) = (Lq f p.1 m * Lq f p.2 z) / (Lq f m p.2 * Lq f z p.1) ∧ Frac (b + b + (b + b)) (rateV f p m z) := by
  refine ⟨?_, divV_frac (mulV_frac h1 h2) (mulV_frac h3 h4)⟩
  unfold rateV Lq
  rw [vq_div (mulV_frac h1 h2) (mulV_frac h3 h4), vq_mul h1 h2, vq_mul h3 h4]
/-- the new ratio of a rope, out of the old ratios: low the rope, m between, z beyond -/
def turnedR (R : Int × Int → Int × Int) (p : Int × Int) (m z : Int) (r : Int × Int) : Int × Int :=
  if r = pr m z then divV (1, 1) (R p)
  else if r = pr p.1 m ∨ r = pr p.2 z then mulV (R r) (addV (1, 1) (R p))
  else if r = pr m p.2 ∨ r = pr z p.1 then mulV (R r) (divV (R p) (addV (1, 1) (R p)))
  else R r
structure Quad (n : Int) (l : List (Int × Int)) (p : Int × Int) (m z : Int) (l' : List (Int × Int)) (f g : Int × Int → Int × Int) : Prop where
  cut : IsCut n l
  cut' : IsCut n l'
  rope : p ∈ l
  new : pr m z ∈ l'
  ar : Around n l p m z
  ties : ∀ q, q ∈ tiesS n l' ↔ (q ∈ tiesS n l ∧ q ≠ p) ∨ q = pr m z
  mem : ∀ q, q ∈ l' ↔ (q ∈ l ∧ q ≠ p) ∨ q = pr m z
  fr : ∀ q ∈ tiesS n l, Frac 51 (f q)
  gr : ∀ q ∈ tiesS n l', Frac 51 (g q)
  off : ∀ q ∈ tiesS n l, g q = f q
  on : g (pr m z) = acrV f p (pr m z)
theorem Quad.fold {n : Int} {l l' : List (Int × Int)} {p : Int × Int} {m z : Int} {f g : Int × Int → Int × Int} (Q : Quad n l p m z l' f g) {q : Int × Int} (h : q ∈ tiesS n l) (ne : q ≠ p) : q ∈ tiesS n l' := (Q.ties q).mpr (.inl ⟨h, ne⟩)
theorem pr_or (a b : Int) : pr a b = (a, b) ∨ pr a b = (b, a) := by
  unfold pr
  by_cases h : a ≤ b
  · exact .inl (by rw [Int.min_eq_left h, Int.max_eq_right h])
  · exact .inr (by rw [Int.min_eq_right (by omega), Int.max_eq_left (by omega)])
theorem ptolemy {n : Int} {l l' : List (Int × Int)} {p : Int × Int} {m z : Int} {f g : Int × Int → Int × Int} (Q : Quad n l p m z l' f g) : vq (g (pr m z)) * vq (f p) = Lq f p.1 m * Lq f p.2 z + Lq f m p.2 * Lq f z p.1 := by
  have a := Q.ar
  have f1 := Q.fr _ a.lm
  have f2 := Q.fr _ a.hz
  have f3 := Q.fr _ a.hm
  have f4 := Q.fr _ a.lz
  have f5 := Q.fr _ (rope_tie Q.rope)
  have n5 := vq_ne f5
  rw [Q.on]
  rcases pr_or m z with e | e <;> rw [e] <;> unfold acrV
  · simp only
    rw [pr_comm m p.1, pr_comm z p.2, pr_comm m p.2, pr_comm z p.1, vq_div (addV_frac (mulV_frac f1 f2) (mulV_frac f3 f4)) f5, vq_add (mulV_frac f1 f2) (mulV_frac f3 f4), vq_mul f1 f2, vq_mul f3 f4]
    unfold Lq
    rw [pr_comm m p.2, pr_comm z p.1]
    grind
  · simp only
    rw [pr_comm z p.1, pr_comm m p.2, pr_comm z p.2, pr_comm m p.1, vq_div (addV_frac (mulV_frac f4 f3) (mulV_frac f2 f1)) f5, vq_add (mulV_frac f4 f3) (mulV_frac f2 f1), vq_mul f4 f3, vq_mul f2 f1]
    unfold Lq
    rw [pr_comm m p.2, pr_comm z p.1]
    grind

theorem ne_pr {a b : Int} {p : Int × Int} (h : ¬ (min a b = p.1 ∧ max a b = p.2)) : pr a b ≠ p := fun e => h ⟨congrArg Prod.fst e, congrArg Prod.snd e⟩
theorem pr_self {p : Int × Int} (h : p.1 < p.2) : pr p.1 p.2 = p := pr_of_lt h
theorem mne {a b : Rat} (h : a ≠ 0) (k : b ≠ 0) : a * b ≠ 0 := fun e => by
  rcases Rat.mul_eq_zero.mp e with z | z
  · exact h z
  · exact k z
theorem alg_a {A B C D : Rat} (a : A ≠ 0) (b : B ≠ 0) (c : C ≠ 0) (d : D ≠ 0) : (D * C) / (A * B) = 1 / (A * B / (C * D)) := by
  have h1 := mne a b
  have h2 := mne c d
  grind
theorem alg_b {A B C D : Rat} (a : A ≠ 0) (b : B ≠ 0) (c : C ≠ 0) (d : D ≠ 0) : (C * D) / (B * A) = 1 / (A * B / (C * D)) := by
  have h1 := mne a b
  have h2 := mne c d
  grind
/-- a rope that grows by 1 + x: what is new over what is old is G E over C D -/
theorem alg_f {A B C D E G U V X Y : Rat} (c : C ≠ 0) (d : D ≠ 0) (h : G * E = A * B + C * D) (v : V ≠ 0) (hx : X * V = U * (C * D)) (hy : Y * V = U * (G * E)) : Y = X * (1 + A * B / (C * D)) := by
  have h1 := mne c d
  have e1 : 1 + A * B / (C * D) = G * E / (C * D) := by grind
  rw [e1]
  generalize C * D = K at *
  generalize G * E = L at *
  grind
/-- by x over 1 + x: A B over G E -/
theorem alg_k {A B C D E G U V X Y : Rat} (c : C ≠ 0) (d : D ≠ 0) (e : E ≠ 0) (g : G ≠ 0) (h : G * E = A * B + C * D) (v : V ≠ 0) (hx : X * V = U * (G * E)) (hy : Y * V = U * (A * B)) : Y = X * ((A * B / (C * D)) / (1 + A * B / (C * D))) := by
  have h1 := mne c d
  have h2 := mne g e
  have e1 : 1 + A * B / (C * D) = G * E / (C * D) := by grind
  rw [e1]
  generalize C * D = K at *
  generalize G * E = L at *
  generalize A * B = N at *
  grind
theorem alg_f' {A B C D E G U P1 Q1 P2 Q2 : Rat} (c : C ≠ 0) (d : D ≠ 0) (h : G * E = A * B + C * D) (q1 : Q1 ≠ 0) (q2 : Q2 ≠ 0) (hx : P1 * Q2 = U * (C * D)) (hy : P2 * Q1 = U * (G * E)) : P2 / Q2 = P1 / Q1 * (1 + A * B / (C * D)) :=
  alg_f (U := U) c d h (mne q1 q2) (by rw [← hx]; grind) (by rw [← hy]; grind)
theorem alg_k' {A B C D E G U P1 Q1 P2 Q2 : Rat} (c : C ≠ 0) (d : D ≠ 0) (e : E ≠ 0) (g : G ≠ 0) (h : G * E = A * B + C * D) (q1 : Q1 ≠ 0) (q2 : Q2 ≠ 0) (hx : P1 * Q2 = U * (G * E)) (hy : P2 * Q1 = U * (A * B)) : P2 / Q2 = P1 / Q1 * ((A * B / (C * D)) / (1 + A * B / (C * D))) :=
  alg_k (U := U) c d e g h (mne q1 q2) (by rw [← hx]; grind) (by rw [← hy]; grind)
theorem frac_mul {P Q : Rat} (q : Q ≠ 0) (W : Rat) : P / Q * (Q * W) = P * W := by grind
/-- the rates, both ways of reckoning them -/
theorem rates_turned {n : Int} {l l' : List (Int × Int)} {p : Int × Int} {m z : Int} {f g : Int × Int → Int × Int} (Q : Quad n l p m z l' f g) {r : Int × Int} (hr : r ∈ l') : rateL n l' g r = turnedR (rateL n l f) p m z r := by
  have a := Q.ar
  have hm0 := a.m0
  have hm1 := a.m1
  have ho := a.out
  have T1 := a.lm
  have T2 := a.hz
  have T3 : pr m p.2 ∈ tiesS n l := by rw [pr_comm]; exact a.hm
  have T4 : pr z p.1 ∈ tiesS n l := by rw [pr_comm]; exact a.lz
  have n1 : pr p.1 m ≠ p := ne_pr (by omega)
  have n2 : pr p.2 z ≠ p := ne_pr (by omega)
  have n3 : pr m p.2 ≠ p := ne_pr (by omega)
  have n4 : pr z p.1 ≠ p := ne_pr (by omega)
  have U1 := Q.fold T1 n1
  have U2 := Q.fold T2 n2
  have U3 := Q.fold T3 n3
  have U4 := Q.fold T4 n4
  have U5 : pr m z ∈ tiesS n l' := (Q.ties _).mpr (.inr rfl)
  have T5 := rope_tie (n := n) Q.rope
  have hP := ptolemy Q
  have z1 := vq_ne (Q.fr _ T1)
  have z2 := vq_ne (Q.fr _ T2)
  have z3 := vq_ne (Q.fr _ T3)
  have z4 := vq_ne (Q.fr _ T4)
  have z5 := vq_ne (Q.fr _ T5)
  have z6 := vq_ne (Q.gr _ U5)
  have G1 : Lq g p.1 m = Lq f p.1 m := by unfold Lq; rw [Q.off _ T1]
  have G2 : Lq g p.2 z = Lq f p.2 z := by unfold Lq; rw [Q.off _ T2]
  have G3 : Lq g m p.2 = Lq f m p.2 := by unfold Lq; rw [Q.off _ T3]
  have G4 : Lq g z p.1 = Lq f z p.1 := by unfold Lq; rw [Q.off _ T4]
  have eR : rateL n l f p = rateV f p m z := rate_in Q.cut Q.rope T1 a.hm ⟨hm0, hm1⟩ a.lz a.hz ho
  obtain ⟨x1, x2⟩ := rateV_q (Q.fr _ T1) (Q.fr _ T2) (Q.fr _ T3) (Q.fr _ T4)
  rw [← eR] at x1 x2
  have y1 := vq_add one_frac x2
  have y2 := addV_frac one_frac x2
  rw [vq_one, x1] at y1
  have hx : vq (rateL n l f p) ≠ 0 := vq_ne x2
  have hy := vq_ne y2
  have c1 := Lq_comm f p.1 m
  have c2 := Lq_comm f p.2 z
  have c3 := Lq_comm f m p.2
  have c4 := Lq_comm f z p.1
  have d1 := Lq_comm g p.1 m
  have d2 := Lq_comm g p.2 z
  have d3 := Lq_comm g m p.2
  have d4 := Lq_comm g z p.1
  have d5 := Lq_comm g m z
  have e5 : Lq g m z = vq (g (pr m z)) := rfl
  have e6 : Lq f p.1 p.2 = vq (f p) := by unfold Lq; rw [pr_self (by omega)]
  have c6 := Lq_comm f p.1 p.2
  rw [← e5] at hP z6
  rw [← e6] at hP z5
  have z1 : Lq f p.1 m ≠ 0 := z1
  have z2 : Lq f p.2 z ≠ 0 := z2
  have z3 : Lq f m p.2 ≠ 0 := z3
  have z4 : Lq f z p.1 ≠ 0 := z4
  unfold turnedR
  by_cases hnew : r = pr m z
  · rw [if_pos hnew, hnew]
    have q2 := divV_frac one_frac x2
    have q1 := vq_div one_frac x2
    rw [vq_one, x1] at q1
    rcases ho with ho | ho
    · have e : pr m z = (z, m) := by rw [pr_comm]; exact pr_of_lt (by omega)
      have w := rate_in (f := g) Q.cut' (r := pr m z) Q.new (s := p.1) (w := p.2) (by rw [e]; exact U4) (by rw [e, pr_comm]; exact U1) (by rw [e]; exact ⟨by show z < p.1; omega, by show p.1 < m; omega⟩) (by rw [e, pr_comm]; exact U2) (by rw [e]; exact U3) (by rw [e]; exact .inr (by show m < p.2; omega))
      rw [w, e]
      obtain ⟨v1, v2⟩ := rateV_q (f := g) (p := (z, m)) (m := p.1) (z := p.2) (Q.gr _ U4) (Q.gr _ U3) (Q.gr _ U1) (Q.gr _ U2)
      refine vq_inj v2.low q2.low ?_
      rw [v1, q1]
      simp only
      rw [G1, G2, G3, G4]
      exact alg_a z1 z2 z3 z4
    · have e : pr m z = (m, z) := pr_of_lt (by omega)
      have w := rate_in (f := g) Q.cut' (r := pr m z) Q.new (s := p.2) (w := p.1) (by rw [e]; exact U3) (by rw [e, pr_comm]; exact U2) (by rw [e]; exact ⟨by show m < p.2; omega, by show p.2 < z; omega⟩) (by rw [e, pr_comm]; exact U1) (by rw [e]; exact U4) (by rw [e]; exact .inl (by show p.1 < m; omega))
      rw [w, e]
      obtain ⟨v1, v2⟩ := rateV_q (f := g) (p := (m, z)) (m := p.2) (z := p.1) (Q.gr _ U3) (Q.gr _ U4) (Q.gr _ U2) (Q.gr _ U1)
      refine vq_inj v2.low q2.low ?_
      rw [v1, q1]
      simp only
      rw [G1, G2, G3, G4]
      exact alg_b z1 z2 z3 z4
  rw [if_neg hnew]
  obtain ⟨hrl, hrp⟩ := ((Q.mem r).mp hr).resolve_right hnew
  obtain ⟨u, v, hTr⟩ := turns Q.cut hrl
  have aR := round hTr
  have hrlt := cut_lt Q.cut hrl
  generalize mOf r u v = s at *
  generalize zOf r u v = w at *
  have i0 := aR.m0
  have i1 := aR.m1
  have io := aR.out
  have S1 := aR.lm
  have S2 := aR.hm
  have W1 := aR.lz
  have W2 := aR.hz
  have hS : ∀ {c : Int}, pr r.1 c ∈ tiesS n l → pr r.1 c ≠ p → pr r.1 c ∈ tiesS n l' := fun h k => Q.fold h k
  have old : ∀ {c e : Int}, (c1 : pr r.1 c ∈ tiesS n l) → (c2 : pr r.2 c ∈ tiesS n l) → (r.1 < c ∧ c < r.2) → (e1 : pr r.1 e ∈ tiesS n l) → (e2 : pr r.2 e ∈ tiesS n l) → (e < r.1 ∨ r.2 < e) →
      vq (rateL n l f r) = (Lq f r.1 c * Lq f r.2 e) / (Lq f c r.2 * Lq f e r.1) ∧ Frac 204 (rateL n l f r) := fun c1 c2 ci e1 e2 eo => by
    rw [rate_in (f := f) Q.cut hrl c1 c2 ci e1 e2 eo]
    exact rateV_q (Q.fr _ c1) (Q.fr _ e2) (by rw [pr_comm]; exact Q.fr _ c2) (by rw [pr_comm]; exact Q.fr _ e1)
  have new : ∀ {c e : Int}, (c1 : pr r.1 c ∈ tiesS n l') → (c2 : pr r.2 c ∈ tiesS n l') → (r.1 < c ∧ c < r.2) → (e1 : pr r.1 e ∈ tiesS n l') → (e2 : pr r.2 e ∈ tiesS n l') → (e < r.1 ∨ r.2 < e) →
      vq (rateL n l' g r) = (Lq g r.1 c * Lq g r.2 e) / (Lq g c r.2 * Lq g e r.1) ∧ Frac 204 (rateL n l' g r) := fun c1 c2 ci e1 e2 eo => by
    rw [rate_in (f := g) Q.cut' hr c1 c2 ci e1 e2 eo]
    exact rateV_q (Q.gr _ c1) (Q.gr _ e2) (by rw [pr_comm]; exact Q.gr _ c2) (by rw [pr_comm]; exact Q.gr _ e1)
  have ev : ∀ {c e : Int}, pr c e ∈ tiesS n l → Lq g c e = Lq f c e ∧ Lq f c e ≠ 0 := fun h => ⟨by unfold Lq; rw [Q.off _ h], vq_ne (Q.fr _ h)⟩
  have q2f := fun (h : Frac 204 (rateL n l f r)) => vq_mul h y2
  have hk := divV_frac x2 y2
  have hkv := vq_div x2 y2
  rw [x1, y1] at hkv
  have T6 : pr p.1 p.2 ∈ tiesS n l := by rw [pr_self (by omega)]; exact T5
  have T7 : pr p.2 p.1 ∈ tiesS n l := by rw [pr_comm]; exact T6
  have T1c : pr m p.1 ∈ tiesS n l := by rw [pr_comm]; exact T1
  have T2c : pr z p.2 ∈ tiesS n l := by rw [pr_comm]; exact T2
  have T3c : pr p.2 m ∈ tiesS n l := by rw [pr_comm]; exact T3
  have T4c : pr p.1 z ∈ tiesS n l := by rw [pr_comm]; exact T4
  have U1c : pr m p.1 ∈ tiesS n l' := by rw [pr_comm]; exact U1
  have U2c : pr z p.2 ∈ tiesS n l' := by rw [pr_comm]; exact U2
  have U3c : pr p.2 m ∈ tiesS n l' := by rw [pr_comm]; exact U3
  have U4c : pr p.1 z ∈ tiesS n l' := by rw [pr_comm]; exact U4
  have U5c : pr z m ∈ tiesS n l' := by rw [pr_comm]; exact U5
  have S2c : pr s r.2 ∈ tiesS n l := by rw [pr_comm]; exact S2
  have W1c : pr w r.1 ∈ tiesS n l := by rw [pr_comm]; exact W1
  by_cases hf : r = pr p.1 m ∨ r = pr p.2 z
  · rw [if_pos hf]
    rcases hf with hf | hf
    · -- (p1, m)
      have er : r = (p.1, m) := hf.trans (pr_of_lt (by omega))
      subst er
      simp only at *
      obtain ⟨o1, o2⟩ := old S1 S2 ⟨i0, i1⟩ T6 (by rw [pr_comm]; exact T3c) (.inr (by omega))
      obtain ⟨w1, w2⟩ := new (Q.fold S1 (ne_pr (by omega))) (Q.fold S2 (ne_pr (by omega))) ⟨i0, i1⟩ U4c U5 (by omega)
      have t1 := ev S1
      have t2 := ev S2c
      refine vq_inj w2.low (mulV_frac o2 y2).low ?_
      rw [w1, vq_mul o2 y2, y1, o1, t1.1, t2.1, c6.symm, G4]
      refine alg_f' (U := Lq f p.1 s * Lq f s m) z3 z4 hP (mne t2.2 z5) (mne t2.2 z4) (by grind) (by grind)
    · rcases ho with ho | ho
      · -- (z, p2)
        have er : r = (z, p.2) := hf.trans ((pr_comm _ _).trans (pr_of_lt (by omega)))
        subst er
        simp only at *
        obtain ⟨o1, o2⟩ := old T4 T7 ⟨by omega, by omega⟩ W1 W2 io
        obtain ⟨w1, w2⟩ := new U5c U3c ⟨by omega, by omega⟩ (Q.fold W1 (ne_pr (by omega))) (Q.fold W2 (ne_pr (by omega))) io
        have t1 := ev W2
        have t2 := ev W1c
        refine vq_inj w2.low (mulV_frac o2 y2).low ?_
        rw [w1, vq_mul o2 y2, y1, o1, t1.1, t2.1, ← d5, G3]
        refine alg_f' (U := Lq f p.2 w * Lq f w z) z3 z4 hP (mne z5 t2.2) (mne z3 t2.2) (by grind) (by grind)
      · -- (p2, z)
        have er : r = (p.2, z) := hf.trans (pr_of_lt (by omega))
        subst er
        simp only at *
        obtain ⟨o1, o2⟩ := old S1 S2 ⟨i0, i1⟩ T7 T4 (.inl (by omega))
        obtain ⟨w1, w2⟩ := new (Q.fold S1 (ne_pr (by omega))) (Q.fold S2 (ne_pr (by omega))) ⟨i0, i1⟩ U3c U5c (.inl (by omega))
        have t1 := ev S1
        have t2 := ev S2c
        refine vq_inj w2.low (mulV_frac o2 y2).low ?_
        rw [w1, vq_mul o2 y2, y1, o1, t1.1, t2.1, ← d5, G3]
        refine alg_f' (U := Lq f p.2 s * Lq f s z) z3 z4 hP (mne t2.2 z5) (mne t2.2 z3) (by grind) (by grind)
  rw [if_neg hf]
  by_cases hb : r = pr m p.2 ∨ r = pr z p.1
  · rw [if_pos hb]
    rcases hb with hb | hb
    · -- (m, p2)
      have er : r = (m, p.2) := hb.trans (pr_of_lt (by omega))
      subst er
      simp only at *
      obtain ⟨o1, o2⟩ := old S1 S2 ⟨i0, i1⟩ T1c T7 (.inl (by omega))
      obtain ⟨w1, w2⟩ := new (Q.fold S1 (ne_pr (by omega))) (Q.fold S2 (ne_pr (by omega))) ⟨i0, i1⟩ U5 U2 (by omega)
      have t1 := ev S1
      have t2 := ev S2c
      refine vq_inj w2.low (mulV_frac o2 hk).low ?_
      rw [w1, vq_mul o2 hk, hkv, o1, t1.1, t2.1, c6.symm, G2, ← d5]
      refine alg_k' (U := Lq f m s * Lq f s p.2) z3 z4 z5 z6 hP (mne t2.2 z1) (mne t2.2 z6) (by grind) (by grind)
    · rcases ho with ho | ho
      · -- (z, p1)
        have er : r = (z, p.1) := hb.trans (pr_of_lt (by omega))
        subst er
        simp only at *
        obtain ⟨o1, o2⟩ := old S1 S2 ⟨i0, i1⟩ T2c T6 (.inr (by omega))
        obtain ⟨w1, w2⟩ := new (Q.fold S1 (ne_pr (by omega))) (Q.fold S2 (ne_pr (by omega))) ⟨i0, i1⟩ U5c U1 (.inr (by omega))
        have t1 := ev S1
        have t2 := ev S2c
        refine vq_inj w2.low (mulV_frac o2 hk).low ?_
        rw [w1, vq_mul o2 hk, hkv, o1, t1.1, t2.1, G1]
        refine alg_k' (U := Lq f z s * Lq f s p.1) z3 z4 z5 z6 hP (mne t2.2 z2) (mne t2.2 z6) (by grind) (by grind)
      · -- (p1, z)
        have er : r = (p.1, z) := hb.trans ((pr_comm _ _).trans (pr_of_lt (by omega)))
        subst er
        simp only at *
        obtain ⟨o1, o2⟩ := old T6 T2c ⟨by omega, by omega⟩ W1 W2 io
        obtain ⟨w1, w2⟩ := new U1 U5c ⟨by omega, by omega⟩ (Q.fold W1 (ne_pr (by omega))) (Q.fold W2 (ne_pr (by omega))) io
        have t1 := ev W2
        have t2 := ev W1c
        refine vq_inj w2.low (mulV_frac o2 hk).low ?_
        rw [w1, vq_mul o2 hk, hkv, o1, t1.1, t2.1, G1]
        refine alg_k' (U := Lq f z w * Lq f w p.1) z3 z4 z5 z6 hP (mne z2 t2.2) (mne z6 t2.2) (by grind) (by grind)
  rw [if_neg hb]
  have two : ∀ {c : Int}, pr p.1 c ∈ tiesS n l → pr p.2 c ∈ tiesS n l → c = m ∨ c = z := fun h1 h2 => by
    obtain ⟨x, y, hT⟩ := turns Q.cut Q.rope
    have b1 := bes_of Q.cut h1 h2
    have b2 := bes_of Q.cut a.lm a.hm
    have b3 := bes_of Q.cut a.lz a.hz
    rw [hT.bes] at b1 b2 b3
    simp only [List.mem_cons, List.not_mem_nil, or_false] at b1 b2 b3
    omega
  have err : pr r.1 r.2 = r := pr_of_lt (by omega)
  have T8 : pr r.1 r.2 ∈ tiesS n l := by rw [err]; exact rope_tie hrl
  have key : ∀ {c : Int}, pr r.1 c ∈ tiesS n l → pr r.2 c ∈ tiesS n l → pr r.1 c ≠ p ∧ pr r.2 c ≠ p := fun {c} h1 h2 => by
    have go : ∀ {d e : Int}, pr d e = r → pr d c = p → pr e c ∈ tiesS n l → pr d e ∈ tiesS n l → False := fun {d e} hd hc he hde => by
      have fin : ∀ {q : Int}, pr p.1 q ∈ tiesS n l → pr p.2 q ∈ tiesS n l → (pr p.1 q = r ∨ pr p.2 q = r) → False := fun {q} k1 k2 k3 => by
        rcases two k1 k2 with e | e <;> subst e
        · rcases k3 with k | k
          · exact hf (.inl k.symm)
          · exact hb (.inl (k.symm.trans (pr_comm _ _)))
        · rcases k3 with k | k
          · exact hb (.inr (k.symm.trans (pr_comm _ _)))
          · exact hf (.inr k.symm)
      rcases pr_or d c with g | g <;> rw [g] at hc <;> subst hc
      · exact fin (q := e) hde (by rw [pr_comm]; exact he) (.inl hd)
      · exact fin (q := e) (by rw [pr_comm]; exact he) hde (.inr hd)
    exact ⟨fun e => go err e h2 T8, fun e => go (d := r.2) (e := r.1) ((pr_comm _ _).trans err) e h1 (by rw [pr_comm]; exact T8)⟩
  obtain ⟨ks1, ks2⟩ := key S1 S2
  obtain ⟨kw1, kw2⟩ := key W1 W2
  rw [rate_in (f := g) Q.cut' hr (Q.fold S1 ks1) (Q.fold S2 ks2) ⟨i0, i1⟩ (Q.fold W1 kw1) (Q.fold W2 kw2) io, rate_in (f := f) Q.cut hrl S1 S2 ⟨i0, i1⟩ W1 W2 io]
  unfold rateV
  rw [Q.off _ S1, Q.off _ W2, Q.off _ S2c, Q.off _ W1c]

/-! ### across, laid -/
def sp_across (K : PySem.W.Frag) : Sp := fun vs H Q _ => ∃ (d : Addr) (x y : V) (dom : List (Int × Int)) (f : Int × Int → Int × Int) (p q : Int × Int), vs = [.ref d, x, y] ∧ PrAt K H x p ∧ PrAt K H y q ∧ FD K H d dom f ∧
  pr q.1 p.1 ∈ dom ∧ pr q.2 p.2 ∈ dom ∧ pr q.1 p.2 ∈ dom ∧ pr q.2 p.1 ∈ dom ∧ p ∈ dom ∧ Frac 100 (f (pr q.1 p.1)) ∧ Frac 100 (f (pr q.2 p.2)) ∧ Frac 100 (f (pr q.1 p.2)) ∧ Frac 100 (f (pr q.2 p.1)) ∧ Frac 100 (f p) ∧
  ∀ H' v, Same H H' → PrAt K H' v (acrV f p q) → Q v H'
theorem ok_across (T : Env K mg) : FnOk P w K mg base CX0 3 T.a_across T.fd_across ["lengths", "rope", "pair"] (sp_across K) := by
  refine T.F_across.ok sc_across (fun vs H Q E h => ?_) (fun cdv A outer s H2 vs Q E hr h => ?_)
  · obtain ⟨d, x, y, dom, f, p, q, rfl, _⟩ := h
    rfl
  · obtain ⟨d, x, y, dom, f, p, q, rfl, ⟨tp, rfl, hp⟩, ⟨tq, rfl, hq⟩, FH2, m1, m2, m3, m4, m5, f1, f2, f3, f4, f5, k⟩ := h
    refine ⟨_, (pss_cons (ps_asg (pv 2) (pg_tup rfl (pgs_cons (pg_name (i := 3) sc_across.nd rfl (.inl rfl)) (pgs_cons (pg_name (i := 4) sc_across.nd rfl (.inl rfl)) pgs_nil))))
 (pss_cons (ps_asg (pv 1) (pg_tup rfl (pgs_cons (pg_name (i := 5) sc_across.nd rfl (.inl rfl)) (pgs_cons (pg_name (i := 6) sc_across.nd rfl (.inl rfl)) pgs_nil))))
 (pss_cons (ps_set (i := 7) sc_across.nd rfl (.inl rfl) (pe_call (ok_times T) (hr.mono (by decide)) (by rfl) T.g_times T.F_times.kp T.b_times .nil pass0 (pa_cons (pe_dget (hu_of hr) (pv 0) (pe_call (ok_pair_of T) (hr.mono (by decide)) (by rfl) T.g_pair_of T.F_pair_of.kp T.b_pair_of .nil pass0 (pa_cons (pv 3) (pa_cons (pv 5) pa_nil))) (fun _ _ => rfl)) (pa_cons (pe_dget (hu_of hr) (pv 0) (pe_call (ok_pair_of T) (hr.mono (by decide)) (by rfl) T.g_pair_of T.F_pair_of.kp T.b_pair_of .nil pass0 (pa_cons (pv 4) (pa_cons (pv 6) pa_nil))) (fun _ _ => rfl)) pa_nil))))
 (pss_cons (ps_set (i := 8) sc_across.nd rfl (.inl rfl) (pe_call (ok_times T) (hr.mono (by decide)) (by rfl) T.g_times T.F_times.kp T.b_times .nil pass0 (pa_cons (pe_dget (hu_of hr) (pv 0) (pe_call (ok_pair_of T) (hr.mono (by decide)) (by rfl) T.g_pair_of T.F_pair_of.kp T.b_pair_of .nil pass0 (pa_cons (pv 3) (pa_cons (pv 6) pa_nil))) (fun _ _ => rfl)) (pa_cons (pe_dget (hu_of hr) (pv 0) (pe_call (ok_pair_of T) (hr.mono (by decide)) (by rfl) T.g_pair_of T.F_pair_of.kp T.b_pair_of .nil pass0 (pa_cons (pv 4) (pa_cons (pv 5) pa_nil))) (fun _ _ => rfl)) pa_nil))))
 (pss_one (ps_ret (pe_call (ok_over T) (hr.mono (by decide)) (by rfl) T.g_over T.F_over.kp T.b_over .nil pass0 (pa_cons (pe_call (ok_plus T) (hr.mono (by decide)) (by rfl) T.g_plus T.F_plus.kp T.b_plus .nil pass0 (pa_cons (pv 7) (pa_cons (pv 8) pa_nil))) (pa_cons (pe_dget (hu_of hr) (pv 0) (pv 1) (fun _ _ => rfl)) pa_nil))))))))), ?_⟩
    refine ⟨_, rfl, tq, _, rfl, .inl (.inl hq), rfl, _, _, rfl, _, _, rfl, rfl, ?_⟩
    refine ⟨_, rfl, tp, _, rfl, .inl (.inl hp), rfl, _, _, rfl, _, _, rfl, rfl, ?_⟩
    refine ⟨_, rfl, _, rfl, _, rfl, q.1, p.1, rfl, fun u1 hu1 => ?_⟩
    have t1 := same_new (o := (.tup [.int (pr q.1 p.1).1, .int (pr q.1 p.1).2])) hu1
    have k1 : (upd H2 u1 (.tup [.int (pr q.1 p.1).1, .int (pr q.1 p.1).2])) u1 = some (.tup [.int (pr q.1 p.1).1, .int (pr q.1 p.1).2]) := upd_same
    generalize upd H2 u1 (.tup [.int (pr q.1 p.1).1, .int (pr q.1 p.1).2]) = H3 at *
    have FH3 := FD.mono t1 FH2
    obtain ⟨⟨kv1, e1, r1⟩, _, _⟩ := id FH3
    obtain ⟨v1, g1, q1⟩ := Ents.get r1 m1
    refine ⟨d, v1, rfl, (by rw [← g1]; exact DGet.t e1 (key_pk k1)), ?_⟩
    refine ⟨_, rfl, _, rfl, _, rfl, q.2, p.2, rfl, fun u2 hu2 => ?_⟩
    have t2 := same_new (o := (.tup [.int (pr q.2 p.2).1, .int (pr q.2 p.2).2])) hu2
    have k2 : (upd H3 u2 (.tup [.int (pr q.2 p.2).1, .int (pr q.2 p.2).2])) u2 = some (.tup [.int (pr q.2 p.2).1, .int (pr q.2 p.2).2]) := upd_same
    generalize upd H3 u2 (.tup [.int (pr q.2 p.2).1, .int (pr q.2 p.2).2]) = H4 at *
    have FH4 := FD.mono t2 FH3
    obtain ⟨⟨kv2, e2, r2⟩, _, _⟩ := id FH4
    obtain ⟨v2, g2, q2⟩ := Ents.get r2 m2
    refine ⟨d, v2, rfl, (by rw [← g2]; exact DGet.t e2 (key_pk k2)), ?_⟩
    refine ⟨v1, v2, _, _, rfl, PrAt.mono t2 q1, q2, f1.more (by decide), f2.more (by decide), fun H5 w1 t5 hw1 => ?_⟩
    have FH5 := FD.mono t5 FH4
    refine ⟨_, rfl, _, rfl, _, rfl, q.1, p.2, rfl, fun u3 hu3 => ?_⟩
    have t3 := same_new (o := (.tup [.int (pr q.1 p.2).1, .int (pr q.1 p.2).2])) hu3
    have k3 : (upd H5 u3 (.tup [.int (pr q.1 p.2).1, .int (pr q.1 p.2).2])) u3 = some (.tup [.int (pr q.1 p.2).1, .int (pr q.1 p.2).2]) := upd_same
    generalize upd H5 u3 (.tup [.int (pr q.1 p.2).1, .int (pr q.1 p.2).2]) = H6 at *
    have FH6 := FD.mono t3 FH5
    obtain ⟨⟨kv3, e3, r3⟩, _, _⟩ := id FH6
    obtain ⟨v3, g3, q3⟩ := Ents.get r3 m3
    refine ⟨d, v3, rfl, (by rw [← g3]; exact DGet.t e3 (key_pk k3)), ?_⟩
    refine ⟨_, rfl, _, rfl, _, rfl, q.2, p.1, rfl, fun u4 hu4 => ?_⟩
    have t4 := same_new (o := (.tup [.int (pr q.2 p.1).1, .int (pr q.2 p.1).2])) hu4
    have k4 : (upd H6 u4 (.tup [.int (pr q.2 p.1).1, .int (pr q.2 p.1).2])) u4 = some (.tup [.int (pr q.2 p.1).1, .int (pr q.2 p.1).2]) := upd_same
    generalize upd H6 u4 (.tup [.int (pr q.2 p.1).1, .int (pr q.2 p.1).2]) = H7 at *
    have FH7 := FD.mono t4 FH6
    obtain ⟨⟨kv4, e4, r4⟩, _, _⟩ := id FH7
    obtain ⟨v4, g4, q4⟩ := Ents.get r4 m4
    refine ⟨d, v4, rfl, (by rw [← g4]; exact DGet.t e4 (key_pk k4)), ?_⟩
    refine ⟨v3, v4, _, _, rfl, PrAt.mono t4 q3, q4, f3.more (by decide), f4.more (by decide), fun H8 w2 t8 hw2 => ?_⟩
    have s38 := (t3.trans t4).trans t8
    refine ⟨_, rfl, _, rfl, w1, w2, _, _, rfl, hw1.mono s38, hw2, (mulV_frac f1 f2).more (by decide), (mulV_frac f3 f4).more (by decide), fun H9 w3 t9 hw3 => ?_⟩
    have s29 := (((t1.trans t2).trans t5).trans s38).trans t9
    obtain ⟨⟨kv5, e5, r5⟩, _, _⟩ := FH2.mono s29
    obtain ⟨v5, g5, q5⟩ := Ents.get r5 m5
    refine ⟨_, rfl, _, rfl, d, v5, rfl, (by rw [← g5]; exact DGet.t e5 (key_pk (s29 _ _ hp))), ?_⟩
    exact ⟨w3, v5, _, _, rfl, hw3, q5, (addV_frac (mulV_frac f1 f2) (mulV_frac f3 f4)).more (by decide), f5.more (by decide), fun HA w4 tA hw4 => k HA w4 (s29.trans tA) hw4⟩

theorem FD.other {H : Hp} {D d : Addr} {dom : List (Int × Int)} {f : Int × Int → Int × Int} {o x : HO} (h : FD K H D dom f) (hd : H d = some o) (ne : D ≠ d) (nt : ∀ ys, o ≠ .tup ys) : FD K (upd H d x) D dom f := by
  obtain ⟨⟨kvs, e, r⟩, nd, sm⟩ := h
  refine ⟨⟨kvs, by rw [upd_ne ne]; exact e, Ents.tups (fun t ys q => ?_) r⟩, nd, sm⟩
  rw [upd_ne (ne_of q hd (fun z => nt ys z.symm))]
  exact q
theorem new_no_tie {n : Int} {l : List (Int × Int)} {p : Int × Int} {x y : Int} (h : Turns n l p x y) : (x, y) ∉ tiesS n l := fun hm => by
  rcases List.mem_append.mp (sort2_mem.mp hm) with z | z
  · exact side_rope h.isC z ((h.mem _).mpr (.inr rfl))
  · exact h.new z
def laidF (f : Int × Int → Int × Int) (p : Int × Int) (x y : Int) : Int × Int → Int × Int := setF f (x, y) (acrV f p (x, y))
def sp_laid (K : PySem.W.Frag) (C : Addr) : Sp := fun vs H Q E => ∃ (n : Int) (c d : Addr) (xs : List V) (l dom : List (Int × Int)) (f : Int × Int → Int × Int) (a b : Int), vs = [.int n, .ref c, .ref d, .int a, .int b] ∧ 3 ≤ n ∧ n ≤ 12 ∧ H c = some (.lst xs) ∧ PrL K H xs l ∧ l.length ≤ 100 ∧ IsCut n l ∧
  FD K H d dom f ∧ (∀ p, p ∈ dom ↔ p ∈ tiesS n l) ∧ (∀ p ∈ tiesS n l, Frac 100 (f p)) ∧ (pr a b ∉ l → ∀ H', Same H H' → E (.ref C) none H') ∧
  (pr a b ∈ l → ∀ x y, Turns n l (pr a b) x y → ∀ H' D, Same H H' → H D = none → FD K H' D ((dom.filter fun q => decide (q ≠ pr a b)) ++ [(x, y)]) (laidF f (pr a b) x y) → Q (.ref D) H')
theorem ok_laid (T : Env K mg) : FnOk P w K mg base (L2.CX P w) 5 T.a_laid T.fd_laid ["n", "cut", "lengths", "a", "b"] (sp_laid K T.C_NoRope) := by
  refine T.F_laid.okX sc_laid (fun vs H Q E h => ?_) (fun cdv A outer s H vs Q E hr h => ?_)
  · obtain ⟨n, c, d, xs, l, dom, f, a, b, rfl, _⟩ := h
    rfl
  · obtain ⟨n, c, d, xs, l, dom, f, a, b, rfl, h3, h12, hc, hL, hl, hC, hF, hdm, hfr, k0, k1⟩ := h
    refine ⟨_, (pss_cons (ps_set (i := 5) sc_laid.nd rfl (.inl rfl) (pe_callS (ok_new_rope T) (hr.mono (by decide)) (by rfl) T.g_new_rope T.F_new_rope.kp T.b_new_rope (fun σ => passAt (takes_of rfl rfl rfl rfl) σ) (pa_cons (pv 0) (pa_cons (pv 1) (pa_cons (pv 3) (pa_cons (pv 4) pa_nil))))))
 (pss_cons (ps_set (i := 6) sc_laid.nd rfl (.inr rfl) (pe_call (ok_pair_of T) (hr.mono (by decide)) (by rfl) T.g_pair_of T.F_pair_of.kp T.b_pair_of .nil pass0 (pa_cons (pv 3) (pa_cons (pv 4) pa_nil))))
 (pss_cons (ps_lock (ps_setDct (i := 7) (own := [("tie", 8)]) (by rfl) (hu_of hr) sc_laid.nd rfl rfl (sw_trueD rfl rfl rfl (by decide +kernel)) (pi_keys (pv 2)) (blkOk_by (own := [("tie", 8)]) (N := ["n", "cut", "lengths", "a", "b", "new", "old", "found", "tie"]) (sc := defScope s_laid) (by decide +kernel)) (fun _ _ _ _ _ => (pg_name (i := 8) sc_laid.nd rfl (.inl rfl))) (fun _ _ _ _ _ => (pts_one (pt_cmpR (r := rEqP2 K true) (op_neP2 (by have h_ := hr.units; exact h_)) (pv 8) (pv 6) (nomark _)))) (fun _ _ _ _ _ => (pv 8)) (fun _ _ _ _ _ => (pe_dget (hu_of hr) (pv 2) (pv 8) (fun _ _ => rfl)))))
 (pss_cons (ps_dput (hu_of hr) (pv 7) (pv 5) (pe_call (ok_across T) (hr.mono (by decide)) (by rfl) T.g_across T.F_across.kp T.b_across .nil pass0 (pa_cons (pv 2) (pa_cons (pv 6) (pa_cons (pv 5) pa_nil)))) rfl)
 (pss_one (ps_ret (pv 7))))))), ?_⟩
    refine ⟨_, rfl, _, rfl, _, rfl, _, rfl, n, c, xs, l, a, b, rfl, h3, h12, hc, hL, hl, hC, k0, fun hm x y hT H1 q s1 nq hq => ?_⟩
    have k1 := k1 hm x y hT
    refine ⟨_, rfl, _, rfl, a, b, rfl, fun t ht => ?_⟩
    have s2 := same_new (o := .tup [.int (pr a b).1, .int (pr a b).2]) ht
    have ht2 : (upd H1 t (.tup [.int (pr a b).1, .int (pr a b).2])) t = some (.tup [.int (pr a b).1, .int (pr a b).2]) := upd_same
    generalize upd H1 t (.tup [.int (pr a b).1, .int (pr a b).2]) = H2 at *
    have s12 := s1.trans s2
    have hF2 := hF.mono s12
    have hq2 := s2 _ _ hq
    obtain ⟨⟨kvs, ek, rk⟩, nd, sm⟩ := id hF2
    generalize pr a b = p at *
    refine ⟨d, _, ek, True.intro, fun od => ?_⟩
    refine ⟨_, rfl, d, od, rfl, .inr ⟨kvs, upd_same, fun D hD => ?_⟩⟩
    have hDd : D ≠ d := fun e => by rw [e, upd_same] at hD; cases hD
    have hD2 : H2 D = none := by rw [upd_ne hDd] at hD; exact hD
    have sL : TupS H2 (upd H2 d (.frz od (.dT kvs))) := fun w ys e => by
      rw [upd_ne (ne_of e ek (fun z => nomatch z))]
      exact e
    have hdl := dom_len nd (ties_nodup hC) hdm
    have htc := ties_count hC
    refine dct_keysT (fun i H' => Same (upd H2 d (.frz od (.dT kvs))) H' ∧ FD K H' D ((dom.take i).filter fun q => decide (q ≠ p)) f) ⟨same_new hD, by rw [List.take_zero]; exact FD.nil upd_same⟩ (fun i H' _ ⟨s, _⟩ => s _ _ upd_same) ?_ ?_
    · rintro i k v u H' hk ⟨s3, hFi⟩ hu
      obtain ⟨e, he, e1, e2⟩ := rk.at hk
      have e1 : k = pk e := e1
      subst e1
      have hem : e ∈ dom := List.mem_of_getElem? he
      have hil := (List.getElem?_eq_some_iff.mp he).1
      have ht3 := s3 _ _ (sL _ _ ht2)
      have hd3 := s3 _ _ upd_same
      obtain ⟨va, ga, qa⟩ := Ents.get rk hem
      have hlen := rk.length
      refine ⟨rfl, _, rfl, _, rfl, e, p, ⟨u, rfl, hu⟩, ⟨t, rfl, ht3⟩, _, rfl, ?_⟩
      show if (!decide (e = p)) = true then _ else _
      by_cases eq : e = p
      · rw [decide_eq_true eq]
        refine iteF ?_
        refine ⟨s3, ?_⟩
        rw [take_more he, filter_more, if_neg (by simpa using eq), List.append_nil]
        exact hFi
      · rw [decide_eq_false eq]
        refine iteT ?_
        obtain ⟨⟨kz, ez, rz⟩, nz, sz⟩ := hFi
        refine ⟨_, rfl, _, rfl, _, rfl, d, va, rfl, .inr ⟨kvs, pk e, u, .inr ⟨_, hd3⟩, rfl, hu, ga.symm⟩, kz, pk e, u, rfl, hu, ez, ?_, same_put s3 hD, ?_⟩
        · have h1 := rz.length
          have h2 := List.length_filter_le (fun q => decide (q ≠ p)) (dom.take i)
          rw [List.length_take] at h2
          exact small200' (by omega)
        · rw [take_more he, filter_more, if_pos (by simpa using eq)]
          have hnew : e ∉ (dom.take i).filter fun q => decide (q ≠ p) := fun hm => by
            obtain ⟨j, hj⟩ := List.getElem?_of_mem (List.mem_filter.mp hm).1
            have hjl := (List.getElem?_eq_some_iff.mp hj).1
            rw [List.length_take] at hjl
            rw [List.getElem?_take_of_lt (by omega)] at hj
            have := nodup_at nd hj he
            omega
          obtain ⟨wa, ew, hw⟩ := qa
          refine FD.val (FD.put nz sz ez rz hnew (sm _ hem) ⟨wa, ew, s3 _ _ (sL _ _ hw)⟩) fun q _ => ?_
          unfold setF
          split
          · next e' => rw [e']
          · rfl
    · rintro H' ⟨s3, hFi⟩
      rw [List.take_of_length_le (by have := rk.length; omega)] at hFi
      have hd3 := s3 _ _ upd_same
      refine ⟨hd3, ?_⟩
      have hFu := FD.other (x := .dT kvs) hFi hd3 hDd (fun ys z => nomatch z)
      have s4 := Same.unlock ek s3
      generalize upd H' d (.dT kvs) = H3 at *
      have hx := bes_ties (t := tiesS n l) (n := n) (a := p.1) (b := p.2) (x := x) (by rw [hT.bes]; simp)
      have hy := bes_ties (t := tiesS n l) (n := n) (a := p.1) (b := p.2) (x := y) (by rw [hT.bes]; simp)
      rw [pr_comm p.1 x, pr_comm p.2 x] at hx
      rw [pr_comm p.1 y, pr_comm p.2 y] at hy
      have hpt := rope_tie (n := n) hm
      refine ⟨_, rfl, _, rfl, _, rfl, d, .ref t, .ref q, dom, f, p, (x, y), rfl, ⟨t, rfl, s4 _ _ ht2⟩, ⟨q, rfl, s4 _ _ hq2⟩, hF2.mono s4, (hdm _).mpr hx.1, (hdm _).mpr hy.2, (hdm _).mpr hx.2, (hdm _).mpr hy.1, (hdm _).mpr hpt, hfr _ hx.1, hfr _ hy.2, hfr _ hx.2, hfr _ hy.1, hfr _ hpt, fun H4 v s5 hv => ?_⟩
      obtain ⟨⟨kz, ez, rz⟩, nz, sz⟩ := hFu.mono s5
      have hnew : (x, y) ∉ dom.filter fun q => decide (q ≠ p) := fun hmm => new_no_tie hT ((hdm _).mp (List.mem_filter.mp hmm).1)
      have hfl := List.length_filter_le (fun q => decide (q ≠ p)) dom
      have hrl := rz.length
      have h0 := hT.x0
      have h1 := hT.xy
      have h2 := hT.yn
      have s04 := s12.trans (s4.trans s5)
      refine ⟨_, rfl, _, rfl, D, _, rfl, DPut.t ez (key_pk (p := (x, y)) ((s4.trans s5) _ _ hq2)) (small200' (by omega)), ?_⟩
      exact ⟨_, rfl, k1 _ D (same_put s04 (none_back s12 hD2)) (none_back s12 hD2) (FD.put nz sz ez rz hnew ⟨h0, by show x < 13; omega, by show 0 ≤ y; omega, by show y < 13; omega⟩ hv)⟩

/-! ### turned_ratios -/
def stepF (dom : List (Int × Int)) (f : Int × Int → Int × Int) (t w : Int × Int) : Int × Int → Int × Int := if t ∈ dom then setF f t (mulV (f t) w) else f
theorem stepF_at {dom : List (Int × Int)} {f : Int × Int → Int × Int} {t w q : Int × Int} (h : q ∈ dom) : stepF dom f t w q = if q = t then mulV (f q) w else f q := by
  unfold stepF
  by_cases e : q = t
  · subst e
    rw [if_pos h, if_pos rfl]
    exact if_pos rfl
  · rw [if_neg e]
    split
    · exact if_neg e
    · rfl
theorem stepF_frac {dom : List (Int × Int)} {f : Int × Int → Int × Int} {t w : Int × Int} {a b : Nat} (hf : ∀ q ∈ dom, Frac a (f q)) (hw : Frac b w) : ∀ q ∈ dom, Frac (a + b) (stepF dom f t w q) := fun q hq => by
  rw [stepF_at hq]
  split
  · exact mulV_frac (hf q hq) hw
  · exact (hf q hq).more (Nat.le_add_right _ _)
/-- the four ties in their turn -/
def fourF (dom : List (Int × Int)) (f : Int × Int → Int × Int) (t1 t2 t3 t4 u v : Int × Int) : Int × Int → Int × Int := stepF dom (stepF dom (stepF dom (stepF dom f t1 u) t2 u) t3 v) t4 v
structure Four (t1 t2 t3 t4 : Int × Int) : Prop where
  a : t1 ≠ t2
  b : t1 ≠ t3
  c : t1 ≠ t4
  d : t2 ≠ t3
  e : t2 ≠ t4
  f : t3 ≠ t4
theorem fourF_at {dom : List (Int × Int)} {f : Int × Int → Int × Int} {t1 t2 t3 t4 u v q : Int × Int} (D : Four t1 t2 t3 t4) (h : q ∈ dom) : fourF dom f t1 t2 t3 t4 u v q = if q = t1 ∨ q = t2 then mulV (f q) u else if q = t3 ∨ q = t4 then mulV (f q) v else f q := by
  unfold fourF
  rw [stepF_at h, stepF_at h, stepF_at h, stepF_at h]
  have := D.a; have := D.b; have := D.c; have := D.d; have := D.e; have := D.f
  by_cases h1 : q = t1
  · subst h1; simp [D.a, D.b, D.c]
  · by_cases h2 : q = t2
    · subst h2; simp [D.d, D.e, h1]
    · by_cases h3 : q = t3
      · subst h3; simp [D.f, h1, h2]
      · by_cases h4 : q = t4
        · subst h4; simp [h1, h2, h3]
        · simp [h1, h2, h3, h4]
theorem four_of {n : Int} {l : List (Int × Int)} {p : Int × Int} {m z : Int} (a : Around n l p m z) : Four (pr p.1 m) (pr p.2 z) (pr m p.2) (pr z p.1) := by
  have h0 := a.m0
  have h1 := a.m1
  have ho := a.out
  have key : ∀ {a b c d : Int}, ¬ (min a b = min c d ∧ max a b = max c d) → pr a b ≠ pr c d := fun h e => h ⟨congrArg Prod.fst e, congrArg Prod.snd e⟩
  exact ⟨key (by omega), key (by omega), key (by omega), key (by omega), key (by omega), key (by omega)⟩
def tR (R : Int × Int → Int × Int) (p : Int × Int) (x y : Int) : Int × Int → Int × Int := turnedR R p (mOf p x y) (zOf p x y)
theorem pr_mz {n : Int} {l : List (Int × Int)} {p : Int × Int} {x y : Int} (h : Turns n l p x y) : pr (mOf p x y) (zOf p x y) = (x, y) := by
  have hxy := h.xy
  unfold mOf zOf
  split
  · exact pr_of_lt hxy
  · rw [pr_comm]; exact pr_of_lt hxy
def inF (dm : List (Int × Int)) (f : Int × Int → Int × Int) (T1 T2 fw : Int × Int) : Nat → Int × Int → Int × Int
  | 0 => f
  | 1 => stepF dm f T1 fw
  | _ + 2 => stepF dm (stepF dm f T1 fw) T2 fw
def ouF (dm : List (Int × Int)) (f : Int × Int → Int × Int) (t1 t2 t3 t4 u v : Int × Int) : Nat → Int × Int → Int × Int
  | 0 => f
  | 1 => stepF dm (stepF dm f t1 u) t2 u
  | _ + 2 => fourF dm f t1 t2 t3 t4 u v
def sp_tratios (K : PySem.W.Frag) (C : Addr) : Sp := fun vs H Q E => ∃ (n : Int) (c d : Addr) (xs : List V) (l dom : List (Int × Int)) (R : Int × Int → Int × Int) (a b : Int), vs = [.int n, .ref c, .ref d, .int a, .int b] ∧ 3 ≤ n ∧ n ≤ 12 ∧ H c = some (.lst xs) ∧ PrL K H xs l ∧ l.length ≤ 100 ∧ IsCut n l ∧
  FD K H d dom R ∧ (∀ p, p ∈ dom ↔ p ∈ l) ∧ (∀ p ∈ l, Frac 400 (R p)) ∧ (pr a b ∉ l → ∀ H', Same H H' → E (.ref C) none H') ∧
  (pr a b ∈ l → ∀ x y, Turns n l (pr a b) x y → ∀ H' D, Same H H' → H D = none → FD K H' D ((dom.filter fun q => decide (q ≠ pr a b)) ++ [(x, y)]) (tR R (pr a b) x y) → Q (.ref D) H')
theorem ok_turned_ratios (T : Env K mg) : FnOk P w K mg base (L2.CX P w) 6 T.a_turned_ratios T.fd_turned_ratios ["n", "cut", "rates", "a", "b"] (sp_tratios K T.C_NoRope) := by
  refine T.F_turned_ratios.okX sc_turned_ratios (fun vs H Q E h => ?_) (fun cdv A outer s H vs Q E hr h => ?_)
  · obtain ⟨n, c, d, xs, l, dom, R, a, b, rfl, _⟩ := h
    rfl
  · obtain ⟨n, c, d, xs, l, dom, R, a, b, rfl, h3, h12, hc, hL, hl, hC, hF, hdm, hfr, k0, k1⟩ := h
    refine ⟨_, (pss_cons (ps_asg (pe_callS (ok_ties_round T) (hr.mono (by decide)) (by rfl) T.g_ties_round T.F_ties_round.kp T.b_ties_round (fun σ => passAt (takes_of rfl rfl rfl rfl) σ) (pa_cons (pv 0) (pa_cons (pv 1) (pa_cons (pv 3) (pa_cons (pv 4) pa_nil))))) (pg_tup rfl (pgs_cons (pg_name (i := 5) sc_turned_ratios.nd rfl (.inl rfl)) (pgs_cons (pg_name (i := 6) sc_turned_ratios.nd rfl (.inl rfl)) pgs_nil))))
 (pss_cons (ps_set (i := 7) sc_turned_ratios.nd rfl (.inr rfl) (pe_call (ok_pair_of T) (hr.mono (by decide)) (by rfl) T.g_pair_of T.F_pair_of.kp T.b_pair_of .nil pass0 (pa_cons (pv 3) (pa_cons (pv 4) pa_nil))))
 (pss_cons (ps_set (i := 8) sc_turned_ratios.nd rfl (.inl rfl) (pe_dget (hu_of hr) (pv 2) (pv 7) (fun _ _ => rfl)))
 (pss_cons (ps_set (i := 9) sc_turned_ratios.nd rfl (.inl rfl) (pe_call (ok_plusQ T) (hr.mono (by decide)) (by rfl) T.g_plus T.F_plus.kp T.b_plus .nil pass0 (pa_cons (pe_glob (v := .ref T.o_ONE) rfl T.m_ONE rfl) (pa_cons (pv 8) pa_nil))))
 (pss_cons (ps_lock (ps_setDct (i := 10) (own := [("rope", 14)]) (by rfl) (hu_of hr) sc_turned_ratios.nd rfl rfl (sw_trueD rfl rfl rfl (by decide +kernel)) (pi_keys (pv 2)) (blkOk_by (own := [("rope", 14)]) (N := ["n", "cut", "rates", "a", "b", "forward", "backward", "old", "rate", "more", "made", "near", "factor", "tie", "rope"]) (sc := defScope s_turned_ratios) (by decide +kernel)) (fun _ _ _ _ _ => (pg_name (i := 14) sc_turned_ratios.nd rfl (.inl rfl))) (fun _ _ _ _ _ => (pts_one (pt_cmpR (r := rEqP2 K true) (op_neP2 (by have h_ := hr.units; exact h_)) (pv 14) (pv 7) (nomark _)))) (fun _ _ _ _ _ => (pv 14)) (fun _ _ _ _ _ => (pe_dget (hu_of hr) (pv 2) (pv 14) (fun _ _ => rfl)))))
 (pss_cons (ps_for (passes_of rfl) rfl (pi_tup (pe_tup (pa_cons (pe_tup (pa_cons (pv 5) (pa_cons (pv 9) pa_nil))) (pa_cons (pe_tup (pa_cons (pv 6) (pa_cons (pe_call (ok_overQ T) (hr.mono (by decide)) (by rfl) T.g_over T.F_over.kp T.b_over .nil pass0 (pa_cons (pv 8) (pa_cons (pv 9) pa_nil))) pa_nil))) pa_nil)))) (pg_tup rfl (pgs_cons (pg_name (i := 11) sc_turned_ratios.nd rfl (.inl rfl)) (pgs_cons (pg_name (i := 12) sc_turned_ratios.nd rfl (.inl rfl)) pgs_nil)))
 (pss_one (ps_for (passes_of rfl) rfl (pi_tup (pv 11)) (pg_name (i := 13) sc_turned_ratios.nd rfl (.inl rfl))
 (pss_one (ps_if (pt_cmp (pc_din (hu_of hr) (pv 13) (pv 10)))
 (pss_one (ps_dput (hu_of hr) (pv 10) (pv 13) (pe_call (ok_times T) (hr.mono (by decide)) (by rfl) T.g_times T.F_times.kp T.b_times .nil pass0 (pa_cons (pe_dget (hu_of hr) (pv 10) (pv 13) (fun _ _ => rfl)) (pa_cons (pv 12) pa_nil))) rfl))
 pss_nil)))))
 (pss_cons (ps_dput (hu_of hr) (pv 10) (pe_callS (ok_new_rope T) (hr.mono (by decide)) (by rfl) T.g_new_rope T.F_new_rope.kp T.b_new_rope (fun σ => passAt (takes_of rfl rfl rfl rfl) σ) (pa_cons (pv 0) (pa_cons (pv 1) (pa_cons (pv 3) (pa_cons (pv 4) pa_nil))))) (pe_call (ok_overQ T) (hr.mono (by decide)) (by rfl) T.g_over T.F_over.kp T.b_over .nil pass0 (pa_cons (pe_glob (v := .ref T.o_ONE) rfl T.m_ONE rfl) (pa_cons (pv 8) pa_nil))) rfl)
 (pss_one (ps_ret (pv 10)))))))))), ?_⟩
    refine ⟨_, rfl, _, rfl, _, rfl, _, rfl, n, c, xs, l, a, b, rfl, h3, h12, hc, hL, hl, hC, k0, fun hm x y hT H1 q u w s1 hq hu hw => ?_⟩
    have k1 := k1 hm x y hT
    have hAr := round hT
    have hfour := four_of hAr
    have hmz := pr_mz hT
    refine ⟨q, _, rfl, .inl (.inl hq), rfl, _, _, rfl, _, _, rfl, rfl, ?_⟩
    refine ⟨_, rfl, _, rfl, a, b, rfl, fun t ht => ?_⟩
    have s2 := same_new (o := .tup [.int (pr a b).1, .int (pr a b).2]) ht
    have ht2 : (upd H1 t (.tup [.int (pr a b).1, .int (pr a b).2])) t = some (.tup [.int (pr a b).1, .int (pr a b).2]) := upd_same
    generalize upd H1 t (.tup [.int (pr a b).1, .int (pr a b).2]) = H2 at *
    have s12 := s1.trans s2
    have hF2 := hF.mono s12
    have hu2 := hu.mono s2
    have hw2 := hw.mono s2
    obtain ⟨⟨kv0, ek0, rk0⟩, _, _⟩ := id hF2
    generalize epp : pr a b = p at *
    obtain ⟨v0, g0, q0⟩ := Ents.get rk0 ((hdm p).mpr hm)
    have fp := hfr p hm
    refine ⟨_, rfl, _, rfl, d, v0, rfl, (by rw [← g0]; exact DGet.t ek0 (key_pk ht2)), ?_⟩
    refine ⟨_, rfl, .ref T.o_ONE, v0, (1, 1), R p, rfl, ⟨_, rfl, one_sq T H2⟩, q0.sq, one_frac.more (by decide), fp.more (by decide), fun H3 vm s3 hvm => ?_⟩
    have hF3 := hF2.mono s3
    have ht3' := s3 _ _ ht2
    have hu3 := hu2.mono s3
    have hw3 := hw2.mono s3
    have q03 := q0.mono s3
    have s13 := s12.trans s3
    clear hF2 ek0 rk0 g0 q0 hu2 hw2 hu hw hq kv0
    have ht2 := ht3'
    clear ht3'
    obtain ⟨⟨kvs, ek, rk⟩, nd, sm⟩ := id hF3
    refine ⟨d, _, ek, True.intro, fun od => ?_⟩
    refine ⟨_, rfl, d, od, rfl, .inr ⟨kvs, upd_same, fun D hD => ?_⟩⟩
    have hDd : D ≠ d := fun e => by rw [e, upd_same] at hD; cases hD
    have hD2 : H3 D = none := by rw [upd_ne hDd] at hD; exact hD
    have sL : TupS H3 (upd H3 d (.frz od (.dT kvs))) := fun w ys e => by
      rw [upd_ne (ne_of e ek (fun z => nomatch z))]
      exact e
    have hdl := dom_len nd hC.nd hdm
    refine dct_keysT (fun i H' => Same (upd H3 d (.frz od (.dT kvs))) H' ∧ FD K H' D ((dom.take i).filter fun q => decide (q ≠ p)) R) ⟨same_new hD, by rw [List.take_zero]; exact FD.nil upd_same⟩ (fun i H' _ ⟨s, _⟩ => s _ _ upd_same) ?_ ?_
    · rintro i k v u H' hk ⟨s3, hFi⟩ hu
      obtain ⟨e, he, e1, e2⟩ := rk.at hk
      have e1 : k = pk e := e1
      subst e1
      have hem : e ∈ dom := List.mem_of_getElem? he
      have hil := (List.getElem?_eq_some_iff.mp he).1
      have ht3 := s3 _ _ (sL _ _ ht2)
      have hd3 := s3 _ _ upd_same
      obtain ⟨va, ga, qa⟩ := Ents.get rk hem
      have hlen := rk.length
      refine ⟨rfl, _, rfl, _, rfl, e, p, ⟨u, rfl, hu⟩, ⟨t, rfl, ht3⟩, _, rfl, ?_⟩
      show if (!decide (e = p)) = true then _ else _
      by_cases eq : e = p
      · rw [decide_eq_true eq]
        refine iteF ?_
        refine ⟨s3, ?_⟩
        rw [take_more he, filter_more, if_neg (by simpa using eq), List.append_nil]
        exact hFi
      · rw [decide_eq_false eq]
        refine iteT ?_
        obtain ⟨⟨kz, ez, rz⟩, nz, sz⟩ := hFi
        refine ⟨_, rfl, _, rfl, _, rfl, d, va, rfl, .inr ⟨kvs, pk e, u, .inr ⟨_, hd3⟩, rfl, hu, ga.symm⟩, kz, pk e, u, rfl, hu, ez, ?_, same_put s3 hD, ?_⟩
        · have h1 := rz.length
          have h2 := List.length_filter_le (fun q => decide (q ≠ p)) (dom.take i)
          rw [List.length_take] at h2
          exact small200' (by omega)
        · rw [take_more he, filter_more, if_pos (by simpa using eq)]
          have hnew : e ∉ (dom.take i).filter fun q => decide (q ≠ p) := fun hm => by
            obtain ⟨j, hj⟩ := List.getElem?_of_mem (List.mem_filter.mp hm).1
            have hjl := (List.getElem?_eq_some_iff.mp hj).1
            rw [List.length_take] at hjl
            rw [List.getElem?_take_of_lt (by omega)] at hj
            have := nodup_at nd hj he
            omega
          obtain ⟨wa, ew, hw⟩ := qa
          refine FD.val (FD.put nz sz ez rz hnew (sm _ hem) ⟨wa, ew, s3 _ _ (sL _ _ hw)⟩) fun q _ => ?_
          unfold setF
          split
          · next e' => rw [e']
          · rfl
    · rintro H' ⟨s3, hFi⟩
      rw [List.take_of_length_le (by have := rk.length; omega)] at hFi
      have hd3 := s3 _ _ upd_same
      refine ⟨hd3, ?_⟩
      have hFu := FD.other (x := .dT kvs) hFi hd3 hDd (fun ys z => nomatch z)
      have s4 := Same.unlock ek s3
      generalize upd H' d (.dT kvs) = H4 at *
      generalize edm : (dom.filter fun q => decide (q ≠ p)) = dm at *
      have hdml : dm.length ≤ 100 := by
        have := List.length_filter_le (fun q => decide (q ≠ p)) dom
        rw [edm] at this
        omega
      have hdmf : ∀ q ∈ dm, Frac 400 (R q) := fun q hq => by
        rw [← edm] at hq
        exact hfr q ((hdm q).mp (List.mem_filter.mp hq).1)
      have fm := addV_frac one_frac fp
      have fk := divV_frac fp fm
      have hvm4 := hvm.mono s4
      obtain ⟨tf, uf1, uf2, rfl, hf0, ⟨af, rfl, hfa⟩, ⟨bf, rfl, hfb⟩⟩ := hu3.mono s4
      obtain ⟨tb, ub1, ub2, rfl, hb0, ⟨ab, rfl, hba⟩, ⟨bb, rfl, hbb⟩⟩ := hw3.mono s4
      refine ⟨_, rfl, _, rfl, small200 (by show 2 ≤ 200; decide), fun a1 ha1 => ?_⟩
      have r1 := same_new (o := .tup [.ref tf, vm]) ha1
      have ha1' : (upd H4 a1 (.tup [.ref tf, vm])) a1 = some (.tup [.ref tf, vm]) := upd_same
      generalize upd H4 a1 (.tup [.ref tf, vm]) = H5 at *
      refine ⟨_, rfl, _, rfl, _, rfl, v0, vm, _, _, rfl, ((q03.mono s4).mono r1).sq, (hvm4.mono r1).sq, fp.more (by decide), fm.more (by decide), fun H5' vk r2 hvk => ?_⟩
      refine ⟨small200 (by show 2 ≤ 200; decide), fun a2 ha2 => ?_⟩
      have r3 := same_new (o := .tup [.ref tb, vk]) ha2
      have ha2' : (upd H5' a2 (.tup [.ref tb, vk])) a2 = some (.tup [.ref tb, vk]) := upd_same
      generalize upd H5' a2 (.tup [.ref tb, vk]) = H5b at *
      refine ⟨small200 (by show 2 ≤ 200; decide), fun a3 ha3 => ?_⟩
      have r4 := same_new (o := .tup [.ref a1, .ref a2]) ha3
      have ha3' : (upd H5b a3 (.tup [.ref a1, .ref a2])) a3 = some (.tup [.ref a1, .ref a2]) := upd_same
      generalize upd H5b a3 (.tup [.ref a1, .ref a2]) = H6 at *
      have r46 := (r1.trans r2).trans (r3.trans r4)
      have hA1 := (r2.trans (r3.trans r4)) _ _ ha1'
      have hA2 := r4 _ _ ha2'
      have hvm6 := hvm4.mono r46
      have hvk6 := hvk.mono (r3.trans r4)
      have hf := r46 _ _ hf0
      have hfa := r46 _ _ hfa
      have hfb := r46 _ _ hfb
      have hb := r46 _ _ hb0
      have hba := r46 _ _ hba
      have hbb := r46 _ _ hbb
      have hFu6 := hFu.mono r46
      have s36 := s4.trans r46
      have nD := hD2
      refine ⟨a3, rfl, ⟨_, .inl (.inl ha3')⟩, for_tup (K := K) (a := a3) (xs := [.ref a1, .ref a2]) (fun i σ H' => ∃ y1 y2 y3, σ = [some (.int n), some (.ref c), some (.ref d), some (.int a), some (.int b), some (.ref tf), some (.ref tb), some (.ref t), some v0, some vm, some (.ref D), y1, y2, y3, none] ∧ Same H3 H' ∧ TupS H6 H' ∧ FD K H' D dm (ouF dm R (pr p.1 (mOf p x y)) (pr p.2 (zOf p x y)) (pr (mOf p x y) p.2) (pr (zOf p x y) p.1) (addV (1, 1) (R p)) (divV (R p) (addV (1, 1) (R p))) i)) ⟨_, _, _, rfl, s36, fun _ _ h => h, hFu6⟩ (fun i σ H' _ ⟨_, _, _, _, _, t', _⟩ => .inl (.inl (t' _ _ ha3'))) ?_ ?_⟩
      · rintro i v σ Hx hi ⟨y1, y2, y3, rfl, sx, ts, hFx⟩
        match i, hi with
        | 0, hi =>
          obtain rfl : v = .ref a1 := (Option.some.inj hi).symm
          refine ⟨a1, _, rfl, .inl (.inl (ts _ _ hA1)), rfl, _, _, rfl, _, _, rfl, rfl, ?_⟩
          refine ⟨_, rfl, tf, rfl, ⟨_, .inl (.inl (ts _ _ hf))⟩, for_tup (K := K) (a := tf) (xs := [.ref af, .ref bf]) (fun j σ H' => ∃ y3, σ = [some (.int n), some (.ref c), some (.ref d), some (.int a), some (.int b), some (.ref tf), some (.ref tb), some (.ref t), some v0, some vm, some (.ref D), some (.ref tf), some vm, y3, none] ∧ Same H3 H' ∧ TupS H6 H' ∧ FD K H' D dm (inF dm R (pr p.1 (mOf p x y)) (pr p.2 (zOf p x y)) (addV (1, 1) (R p)) j)) ⟨_, rfl, sx, ts, hFx⟩ (fun j σ H' _ ⟨_, _, _, t', _⟩ => .inl (.inl (t' _ _ hf))) ?_ ?_⟩
          · rintro j v σ H' hj ⟨y3, rfl, s8, t8, hF8⟩
            match j, hj with
            | 0, hj =>
              obtain rfl : v = .ref af := (Option.some.inj hj).symm
              have hdT := t8 _ _ hfa
              obtain ⟨⟨kz, ez, rz⟩, nz, sz⟩ := id hF8
              by_cases hd : (pr p.1 (mOf p x y)) ∈ dm
              · obtain ⟨va, ga, qa⟩ := Ents.get rz hd
                have dg : DGet H' D (.ref af) (some va) := by rw [← ga]; exact DGet.t ez (key_pk hdT)
                refine ⟨_, rfl, _, rfl, D, _, rfl, dg, _, rfl, iteT ?_⟩
                refine ⟨_, rfl, _, rfl, D, va, rfl, dg, _, rfl, va, vm, _, (addV (1, 1) (R p)), rfl, qa, PrAt.tups t8 hvm6, (hdmf _ hd).more (by decide), fm.more (by decide), fun H9 v9 s9 hv9 => ?_⟩
                obtain ⟨⟨ky, ey, ry⟩, ny, sy⟩ := hF8.mono s9
                have hfew := ry.length
                refine ⟨_, rfl, _, rfl, D, _, rfl, DPut.t ey (key_pk (s9 _ _ hdT)) (small200' (by omega)), ?_⟩
                have tD : TupS H9 (upd H9 D (.dT (putK ky (pk (pr p.1 (mOf p x y))) v9))) := fun w ys q => by
                  rw [upd_ne (ne_of q ey (fun z => nomatch z))]
                  exact q
                refine ⟨_, rfl, same_put (s8.trans s9) nD, (t8.trans (TupS.of s9)).trans tD, FD.val (FD.set ny sy ey ry hd hv9) fun q _ => ?_⟩
                show setF R (pr p.1 (mOf p x y)) (mulV (R (pr p.1 (mOf p x y))) (addV (1, 1) (R p))) q = stepF dm R (pr p.1 (mOf p x y)) (addV (1, 1) (R p)) q
                rw [show stepF dm R (pr p.1 (mOf p x y)) (addV (1, 1) (R p)) = setF R (pr p.1 (mOf p x y)) (mulV (R (pr p.1 (mOf p x y))) (addV (1, 1) (R p))) from if_pos hd]
              · have dg : DGet H' D (.ref af) none := by rw [← Ents.not rz hd]; exact DGet.t ez (key_pk hdT)
                refine ⟨_, rfl, _, rfl, D, _, rfl, dg, _, rfl, iteF ?_⟩
                refine ⟨_, rfl, s8, t8, FD.val hF8 fun q _ => ?_⟩
                show R q = stepF dm R (pr p.1 (mOf p x y)) (addV (1, 1) (R p)) q
                rw [show stepF dm R (pr p.1 (mOf p x y)) (addV (1, 1) (R p)) = R from if_neg hd]
            | 1, hj =>
              obtain rfl : v = .ref bf := (Option.some.inj hj).symm
              have hdT := t8 _ _ hfb
              obtain ⟨⟨kz, ez, rz⟩, nz, sz⟩ := id hF8
              by_cases hd : (pr p.2 (zOf p x y)) ∈ dm
              · obtain ⟨va, ga, qa⟩ := Ents.get rz hd
                have dg : DGet H' D (.ref bf) (some va) := by rw [← ga]; exact DGet.t ez (key_pk hdT)
                refine ⟨_, rfl, _, rfl, D, _, rfl, dg, _, rfl, iteT ?_⟩
                refine ⟨_, rfl, _, rfl, D, va, rfl, dg, _, rfl, va, vm, _, (addV (1, 1) (R p)), rfl, qa, PrAt.tups t8 hvm6, ((stepF_frac hdmf fm) _ hd).more (by decide), fm.more (by decide), fun H9 v9 s9 hv9 => ?_⟩
                obtain ⟨⟨ky, ey, ry⟩, ny, sy⟩ := hF8.mono s9
                have hfew := ry.length
                refine ⟨_, rfl, _, rfl, D, _, rfl, DPut.t ey (key_pk (s9 _ _ hdT)) (small200' (by omega)), ?_⟩
                have tD : TupS H9 (upd H9 D (.dT (putK ky (pk (pr p.2 (zOf p x y))) v9))) := fun w ys q => by
                  rw [upd_ne (ne_of q ey (fun z => nomatch z))]
                  exact q
                refine ⟨_, rfl, same_put (s8.trans s9) nD, (t8.trans (TupS.of s9)).trans tD, FD.val (FD.set ny sy ey ry hd hv9) fun q _ => ?_⟩
                show setF (stepF dm R (pr p.1 (mOf p x y)) (addV (1, 1) (R p))) (pr p.2 (zOf p x y)) (mulV ((stepF dm R (pr p.1 (mOf p x y)) (addV (1, 1) (R p))) (pr p.2 (zOf p x y))) (addV (1, 1) (R p))) q = stepF dm (stepF dm R (pr p.1 (mOf p x y)) (addV (1, 1) (R p))) (pr p.2 (zOf p x y)) (addV (1, 1) (R p)) q
                rw [show stepF dm (stepF dm R (pr p.1 (mOf p x y)) (addV (1, 1) (R p))) (pr p.2 (zOf p x y)) (addV (1, 1) (R p)) = setF (stepF dm R (pr p.1 (mOf p x y)) (addV (1, 1) (R p))) (pr p.2 (zOf p x y)) (mulV ((stepF dm R (pr p.1 (mOf p x y)) (addV (1, 1) (R p))) (pr p.2 (zOf p x y))) (addV (1, 1) (R p))) from if_pos hd]
              · have dg : DGet H' D (.ref bf) none := by rw [← Ents.not rz hd]; exact DGet.t ez (key_pk hdT)
                refine ⟨_, rfl, _, rfl, D, _, rfl, dg, _, rfl, iteF ?_⟩
                refine ⟨_, rfl, s8, t8, FD.val hF8 fun q _ => ?_⟩
                show (stepF dm R (pr p.1 (mOf p x y)) (addV (1, 1) (R p))) q = stepF dm (stepF dm R (pr p.1 (mOf p x y)) (addV (1, 1) (R p))) (pr p.2 (zOf p x y)) (addV (1, 1) (R p)) q
                rw [show stepF dm (stepF dm R (pr p.1 (mOf p x y)) (addV (1, 1) (R p))) (pr p.2 (zOf p x y)) (addV (1, 1) (R p)) = (stepF dm R (pr p.1 (mOf p x y)) (addV (1, 1) (R p))) from if_neg hd]
            | j + 2, hj => cases hj
          · rintro σ H' ⟨y3, rfl, s8, t8, hF8⟩
            exact ⟨_, _, _, rfl, s8, t8, hF8⟩
        | 1, hi =>
          obtain rfl : v = .ref a2 := (Option.some.inj hi).symm
          refine ⟨a2, _, rfl, .inl (.inl (ts _ _ hA2)), rfl, _, _, rfl, _, _, rfl, rfl, ?_⟩
          have hfr1 := stepF_frac (t := (pr p.2 (zOf p x y))) (stepF_frac (t := (pr p.1 (mOf p x y))) hdmf fm) fm
          refine ⟨_, rfl, tb, rfl, ⟨_, .inl (.inl (ts _ _ hb))⟩, for_tup (K := K) (a := tb) (xs := [.ref ab, .ref bb]) (fun j σ H' => ∃ y3, σ = [some (.int n), some (.ref c), some (.ref d), some (.int a), some (.int b), some (.ref tf), some (.ref tb), some (.ref t), some v0, some vm, some (.ref D), some (.ref tb), some vk, y3, none] ∧ Same H3 H' ∧ TupS H6 H' ∧ FD K H' D dm (inF dm (stepF dm (stepF dm R (pr p.1 (mOf p x y)) (addV (1, 1) (R p))) (pr p.2 (zOf p x y)) (addV (1, 1) (R p))) (pr (mOf p x y) p.2) (pr (zOf p x y) p.1) (divV (R p) (addV (1, 1) (R p))) j)) ⟨_, rfl, sx, ts, hFx⟩ (fun j σ H' _ ⟨_, _, _, t', _⟩ => .inl (.inl (t' _ _ hb))) ?_ ?_⟩
          · rintro j v σ H' hj ⟨y3, rfl, s8, t8, hF8⟩
            match j, hj with
            | 0, hj =>
              obtain rfl : v = .ref ab := (Option.some.inj hj).symm
              have hdT := t8 _ _ hba
              obtain ⟨⟨kz, ez, rz⟩, nz, sz⟩ := id hF8
              by_cases hd : (pr (mOf p x y) p.2) ∈ dm
              · obtain ⟨va, ga, qa⟩ := Ents.get rz hd
                have dg : DGet H' D (.ref ab) (some va) := by rw [← ga]; exact DGet.t ez (key_pk hdT)
                refine ⟨_, rfl, _, rfl, D, _, rfl, dg, _, rfl, iteT ?_⟩
                refine ⟨_, rfl, _, rfl, D, va, rfl, dg, _, rfl, va, vk, _, (divV (R p) (addV (1, 1) (R p))), rfl, qa, PrAt.tups t8 hvk6, (hfr1 _ hd).more (by decide), fk.more (by decide), fun H9 v9 s9 hv9 => ?_⟩
                obtain ⟨⟨ky, ey, ry⟩, ny, sy⟩ := hF8.mono s9
                have hfew := ry.length
                refine ⟨_, rfl, _, rfl, D, _, rfl, DPut.t ey (key_pk (s9 _ _ hdT)) (small200' (by omega)), ?_⟩
                have tD : TupS H9 (upd H9 D (.dT (putK ky (pk (pr (mOf p x y) p.2)) v9))) := fun w ys q => by
                  rw [upd_ne (ne_of q ey (fun z => nomatch z))]
                  exact q
                refine ⟨_, rfl, same_put (s8.trans s9) nD, (t8.trans (TupS.of s9)).trans tD, FD.val (FD.set ny sy ey ry hd hv9) fun q _ => ?_⟩
                show setF (stepF dm (stepF dm R (pr p.1 (mOf p x y)) (addV (1, 1) (R p))) (pr p.2 (zOf p x y)) (addV (1, 1) (R p))) (pr (mOf p x y) p.2) (mulV ((stepF dm (stepF dm R (pr p.1 (mOf p x y)) (addV (1, 1) (R p))) (pr p.2 (zOf p x y)) (addV (1, 1) (R p))) (pr (mOf p x y) p.2)) (divV (R p) (addV (1, 1) (R p)))) q = stepF dm (stepF dm (stepF dm R (pr p.1 (mOf p x y)) (addV (1, 1) (R p))) (pr p.2 (zOf p x y)) (addV (1, 1) (R p))) (pr (mOf p x y) p.2) (divV (R p) (addV (1, 1) (R p))) q
                rw [show stepF dm (stepF dm (stepF dm R (pr p.1 (mOf p x y)) (addV (1, 1) (R p))) (pr p.2 (zOf p x y)) (addV (1, 1) (R p))) (pr (mOf p x y) p.2) (divV (R p) (addV (1, 1) (R p))) = setF (stepF dm (stepF dm R (pr p.1 (mOf p x y)) (addV (1, 1) (R p))) (pr p.2 (zOf p x y)) (addV (1, 1) (R p))) (pr (mOf p x y) p.2) (mulV ((stepF dm (stepF dm R (pr p.1 (mOf p x y)) (addV (1, 1) (R p))) (pr p.2 (zOf p x y)) (addV (1, 1) (R p))) (pr (mOf p x y) p.2)) (divV (R p) (addV (1, 1) (R p)))) from if_pos hd]
              · have dg : DGet H' D (.ref ab) none := by rw [← Ents.not rz hd]; exact DGet.t ez (key_pk hdT)
                refine ⟨_, rfl, _, rfl, D, _, rfl, dg, _, rfl, iteF ?_⟩
                refine ⟨_, rfl, s8, t8, FD.val hF8 fun q _ => ?_⟩
                show (stepF dm (stepF dm R (pr p.1 (mOf p x y)) (addV (1, 1) (R p))) (pr p.2 (zOf p x y)) (addV (1, 1) (R p))) q = stepF dm (stepF dm (stepF dm R (pr p.1 (mOf p x y)) (addV (1, 1) (R p))) (pr p.2 (zOf p x y)) (addV (1, 1) (R p))) (pr (mOf p x y) p.2) (divV (R p) (addV (1, 1) (R p))) q
                rw [show stepF dm (stepF dm (stepF dm R (pr p.1 (mOf p x y)) (addV (1, 1) (R p))) (pr p.2 (zOf p x y)) (addV (1, 1) (R p))) (pr (mOf p x y) p.2) (divV (R p) (addV (1, 1) (R p))) = (stepF dm (stepF dm R (pr p.1 (mOf p x y)) (addV (1, 1) (R p))) (pr p.2 (zOf p x y)) (addV (1, 1) (R p))) from if_neg hd]
            | 1, hj =>
              obtain rfl : v = .ref bb := (Option.some.inj hj).symm
              have hdT := t8 _ _ hbb
              obtain ⟨⟨kz, ez, rz⟩, nz, sz⟩ := id hF8
              by_cases hd : (pr (zOf p x y) p.1) ∈ dm
              · obtain ⟨va, ga, qa⟩ := Ents.get rz hd
                have dg : DGet H' D (.ref bb) (some va) := by rw [← ga]; exact DGet.t ez (key_pk hdT)
                refine ⟨_, rfl, _, rfl, D, _, rfl, dg, _, rfl, iteT ?_⟩
                refine ⟨_, rfl, _, rfl, D, va, rfl, dg, _, rfl, va, vk, _, (divV (R p) (addV (1, 1) (R p))), rfl, qa, PrAt.tups t8 hvk6, ((stepF_frac hfr1 fk) _ hd).more (by decide), fk.more (by decide), fun H9 v9 s9 hv9 => ?_⟩
                obtain ⟨⟨ky, ey, ry⟩, ny, sy⟩ := hF8.mono s9
                have hfew := ry.length
                refine ⟨_, rfl, _, rfl, D, _, rfl, DPut.t ey (key_pk (s9 _ _ hdT)) (small200' (by omega)), ?_⟩
                have tD : TupS H9 (upd H9 D (.dT (putK ky (pk (pr (zOf p x y) p.1)) v9))) := fun w ys q => by
                  rw [upd_ne (ne_of q ey (fun z => nomatch z))]
                  exact q
                refine ⟨_, rfl, same_put (s8.trans s9) nD, (t8.trans (TupS.of s9)).trans tD, FD.val (FD.set ny sy ey ry hd hv9) fun q _ => ?_⟩
                show setF (stepF dm (stepF dm (stepF dm R (pr p.1 (mOf p x y)) (addV (1, 1) (R p))) (pr p.2 (zOf p x y)) (addV (1, 1) (R p))) (pr (mOf p x y) p.2) (divV (R p) (addV (1, 1) (R p)))) (pr (zOf p x y) p.1) (mulV ((stepF dm (stepF dm (stepF dm R (pr p.1 (mOf p x y)) (addV (1, 1) (R p))) (pr p.2 (zOf p x y)) (addV (1, 1) (R p))) (pr (mOf p x y) p.2) (divV (R p) (addV (1, 1) (R p)))) (pr (zOf p x y) p.1)) (divV (R p) (addV (1, 1) (R p)))) q = stepF dm (stepF dm (stepF dm (stepF dm R (pr p.1 (mOf p x y)) (addV (1, 1) (R p))) (pr p.2 (zOf p x y)) (addV (1, 1) (R p))) (pr (mOf p x y) p.2) (divV (R p) (addV (1, 1) (R p)))) (pr (zOf p x y) p.1) (divV (R p) (addV (1, 1) (R p))) q
                rw [show stepF dm (stepF dm (stepF dm (stepF dm R (pr p.1 (mOf p x y)) (addV (1, 1) (R p))) (pr p.2 (zOf p x y)) (addV (1, 1) (R p))) (pr (mOf p x y) p.2) (divV (R p) (addV (1, 1) (R p)))) (pr (zOf p x y) p.1) (divV (R p) (addV (1, 1) (R p))) = setF (stepF dm (stepF dm (stepF dm R (pr p.1 (mOf p x y)) (addV (1, 1) (R p))) (pr p.2 (zOf p x y)) (addV (1, 1) (R p))) (pr (mOf p x y) p.2) (divV (R p) (addV (1, 1) (R p)))) (pr (zOf p x y) p.1) (mulV ((stepF dm (stepF dm (stepF dm R (pr p.1 (mOf p x y)) (addV (1, 1) (R p))) (pr p.2 (zOf p x y)) (addV (1, 1) (R p))) (pr (mOf p x y) p.2) (divV (R p) (addV (1, 1) (R p)))) (pr (zOf p x y) p.1)) (divV (R p) (addV (1, 1) (R p)))) from if_pos hd]
              · have dg : DGet H' D (.ref bb) none := by rw [← Ents.not rz hd]; exact DGet.t ez (key_pk hdT)
                refine ⟨_, rfl, _, rfl, D, _, rfl, dg, _, rfl, iteF ?_⟩
                refine ⟨_, rfl, s8, t8, FD.val hF8 fun q _ => ?_⟩
                show (stepF dm (stepF dm (stepF dm R (pr p.1 (mOf p x y)) (addV (1, 1) (R p))) (pr p.2 (zOf p x y)) (addV (1, 1) (R p))) (pr (mOf p x y) p.2) (divV (R p) (addV (1, 1) (R p)))) q = stepF dm (stepF dm (stepF dm (stepF dm R (pr p.1 (mOf p x y)) (addV (1, 1) (R p))) (pr p.2 (zOf p x y)) (addV (1, 1) (R p))) (pr (mOf p x y) p.2) (divV (R p) (addV (1, 1) (R p)))) (pr (zOf p x y) p.1) (divV (R p) (addV (1, 1) (R p))) q
                rw [show stepF dm (stepF dm (stepF dm (stepF dm R (pr p.1 (mOf p x y)) (addV (1, 1) (R p))) (pr p.2 (zOf p x y)) (addV (1, 1) (R p))) (pr (mOf p x y) p.2) (divV (R p) (addV (1, 1) (R p)))) (pr (zOf p x y) p.1) (divV (R p) (addV (1, 1) (R p))) = (stepF dm (stepF dm (stepF dm R (pr p.1 (mOf p x y)) (addV (1, 1) (R p))) (pr p.2 (zOf p x y)) (addV (1, 1) (R p))) (pr (mOf p x y) p.2) (divV (R p) (addV (1, 1) (R p)))) from if_neg hd]
            | j + 2, hj => cases hj
          · rintro σ H' ⟨y3, rfl, s8, t8, hF8⟩
            exact ⟨_, _, _, rfl, s8, t8, hF8⟩
        | i + 2, hi => cases hi
      · rintro σ H7 ⟨y1, y2, y3, rfl, s7, t7, hF7⟩
        have hF7 : FD K H7 D dm (fourF dm R (pr p.1 (mOf p x y)) (pr p.2 (zOf p x y)) (pr (mOf p x y) p.2) (pr (zOf p x y) p.1) (addV (1, 1) (R p)) (divV (R p) (addV (1, 1) (R p)))) := hF7
        have s07 := s13.trans s7
        refine ⟨_, rfl, .ref T.o_ONE, v0, (1, 1), R p, rfl, ⟨_, rfl, one_sq T H7⟩, (q03.mono s7).sq, one_frac.more (by decide), fp.more (by decide), fun H8 vo s8 hvo => ?_⟩
        have s08 := s07.trans s8
        refine ⟨_, rfl, _, rfl, _, rfl, _, rfl, _, rfl, n, c, xs, l, a, b, rfl, h3, h12, s08 _ _ hc, hL.mono s08, hl, hC, fun hn => absurd hm (by rw [epp] at hn; exact hn), fun _ x' y' hT' H9 q9 s9 nq9 hq9 => ?_⟩
        have exy : x' = x ∧ y' = y := by
          have h1 := hT'.bes
          rw [epp, hT.bes] at h1
          have h2 := List.cons.inj h1
          exact ⟨h2.1.symm, (List.cons.inj h2.2).1.symm⟩
        rw [exy.1, exy.2] at hq9
        obtain ⟨⟨kz, ez, rz⟩, nz, sz⟩ := hF7.mono (s8.trans s9)
        have hnew : (x, y) ∉ dm := fun hmm => by
          rw [← edm] at hmm
          exact hT.new ((hdm _).mp (List.mem_filter.mp hmm).1)
        have hfew := rz.length
        have h0 := hT.x0
        have h1 := hT.xy
        have h2 := hT.yn
        refine ⟨D, _, rfl, DPut.t ez (key_pk (p := (x, y)) hq9) (small200' (by omega)), ?_⟩
        have s09 := s08.trans s9
        have nD0 := none_back s13 hD2
        refine ⟨_, rfl, k1 _ D (same_put s09 nD0) nD0 (FD.val (FD.put nz sz ez rz hnew ⟨h0, by show x < 13; omega, by show 0 ≤ y; omega, by show y < 13; omega⟩ (hvo.mono s9)) fun q hq => ?_)⟩
        have hq' := List.mem_append.mp hq
        unfold setF tR turnedR
        rw [hmz]
        by_cases e : q = (x, y)
        · rw [if_pos e, if_pos e]
        · rw [if_neg e, if_neg e]
          have hqd := hq'.resolve_right (fun z => e (List.mem_singleton.mp z))
          exact fourF_at hfour hqd

/-! ### turned twice: the ratios -/
theorem turnedR_frac {R : Int × Int → Int × Int} {p q : Int × Int} {m z : Int} {b : Nat} (hp : Frac b (R p)) (hq : q ≠ pr m z → Frac b (R q)) : Frac (b + (b + (1 + b + 1))) (turnedR R p m z q) := by
  have h1 := divV_frac one_frac hp
  have h2 := addV_frac one_frac hp
  unfold turnedR
  split
  · exact h1.more (by omega)
  · next ne =>
    have hq := hq ne
    split
    · exact (mulV_frac hq h2).more (by omega)
    · split
      · exact mulV_frac hq (divV_frac hp h2)
      · exact hq.more (by omega)
theorem turned_back {n : Int} {l : List (Int × Int)} {R : Int × Int → Int × Int} {p : Int × Int} {x y : Int} {b : Nat} (hm : p ∈ l) (hT : Turns n l p x y) (hfr : ∀ q ∈ l, Frac b (R q)) {q : Int × Int} (hq : q ∈ l) :
    tR (tR R p x y) (x, y) p.1 p.2 q = R q := by
  have a := round hT
  have hmz := pr_mz hT
  have D := four_of a
  have hxy := hT.xy
  have hc := hT.crs
  have hm0 := a.m0
  have hm1 := a.m1
  have ho := a.out
  have fp := hfr p hm
  have fq := hfr q hq
  have hne : q ≠ (x, y) := fun e => hT.new (e ▸ hq)
  have fa := addV_frac one_frac fp
  have fd := divV_frac one_frac fp
  have fa2 := addV_frac one_frac fd
  have z1 := vq_ne fp
  have z2 := vq_ne fa
  have z3 := vq_ne fa2
  have va := vq_add one_frac fp
  have vd := vq_div one_frac fp
  have va2 := vq_add one_frac fd
  rw [vq_one] at va vd va2
  have new : tR R p x y (x, y) = divV (1, 1) (R p) := by
    unfold tR turnedR
    rw [hmz, if_pos rfl]
  have at_ : tR R p x y q = if q = pr p.1 (mOf p x y) ∨ q = pr p.2 (zOf p x y) then mulV (R q) (addV (1, 1) (R p)) else if q = pr (mOf p x y) p.2 ∨ q = pr (zOf p x y) p.1 then mulV (R q) (divV (R p) (addV (1, 1) (R p))) else R q := by
    unfold tR turnedR
    rw [hmz, if_neg hne]
  have e1 : mulV (mulV (R q) (divV (R p) (addV (1, 1) (R p)))) (addV (1, 1) (divV (1, 1) (R p))) = R q := by
    have f1 := divV_frac fp fa
    have f2 := mulV_frac fq f1
    refine vq_inj (mulV_frac f2 fa2).low fq.low ?_
    rw [vq_mul f2 fa2, vq_mul fq f1, vq_div fp fa, va2, va, vd]
    rw [va] at z2
    grind
  have e2 : mulV (mulV (R q) (addV (1, 1) (R p))) (divV (divV (1, 1) (R p)) (addV (1, 1) (divV (1, 1) (R p)))) = R q := by
    have f1 := divV_frac fd fa2
    have f2 := mulV_frac fq fa
    refine vq_inj (mulV_frac f2 f1).low fq.low ?_
    rw [vq_mul f2 f1, vq_mul fq fa, vq_div fd fa2, va2, va, vd]
    rw [va] at z2
    rw [va2, vd] at z3
    grind
  have e3 : divV (1, 1) (divV (1, 1) (R p)) = R p := by
    refine vq_inj (divV_frac one_frac fd).low fp.low ?_
    rw [vq_div one_frac fd, vq_one, vd]
    grind
  -- the ties round the new rope
  have key : ∀ {m' z' : Int}, pr m' z' = p → ((pr x m' = pr (mOf p x y) p.2 ∧ pr y z' = pr (zOf p x y) p.1) ∨ (pr x m' = pr (zOf p x y) p.1 ∧ pr y z' = pr (mOf p x y) p.2)) → ((pr m' y = pr p.1 (mOf p x y) ∧ pr z' x = pr p.2 (zOf p x y)) ∨ (pr m' y = pr p.2 (zOf p x y) ∧ pr z' x = pr p.1 (mOf p x y))) →
      turnedR (tR R p x y) (x, y) m' z' q = R q := fun h0 h1 h2 => by
    unfold turnedR
    rw [h0, new]
    by_cases g0 : q = p
    · rw [if_pos g0, e3, g0]
    rw [if_neg g0]
    generalize mOf p x y = m at *
    generalize zOf p x y = z at *
    have D1 := D.a; have D2 := D.b; have D3 := D.c; have D4 := D.d; have D5 := D.e; have D6 := D.f
    by_cases g3 : q = pr m p.2 ∨ q = pr z p.1
    · have ne : ¬ (q = pr p.1 m ∨ q = pr p.2 z) := by
        rcases g3 with g | g <;> rintro (h | h)
        · exact D2 (h.symm.trans g)
        · exact D4 (h.symm.trans g)
        · exact D3 (h.symm.trans g)
        · exact D5 (h.symm.trans g)
      rw [if_pos (by rcases h1 with h | h <;> rw [h.1, h.2]; exact g3; exact g3.symm), at_, if_neg ne, if_pos g3]
      exact e1
    rw [if_neg (by rcases h1 with h | h <;> rw [h.1, h.2]; exact g3; exact fun k => g3 k.symm)]
    by_cases g1 : q = pr p.1 m ∨ q = pr p.2 z
    · rw [if_pos (by rcases h2 with h | h <;> rw [h.1, h.2]; exact g1; exact g1.symm), at_, if_pos g1]
      exact e2
    rw [if_neg (by rcases h2 with h | h <;> rw [h.1, h.2]; exact g1; exact fun k => g1 k.symm), at_, if_neg g1, if_neg g3]
  have pp : pr p.1 p.2 = p := pr_of_lt (by omega)
  show turnedR (tR R p x y) (x, y) (mOf (x, y) p.1 p.2) (zOf (x, y) p.1 p.2) q = R q
  rcases hc with hc | hc
  · have k1 : mOf (x, y) p.1 p.2 = p.1 := if_pos ⟨by show x < p.1; omega, by show p.1 < y; omega⟩
    have k2 : zOf (x, y) p.1 p.2 = p.2 := if_pos ⟨by show x < p.1; omega, by show p.1 < y; omega⟩
    have k3 : mOf p x y = y := if_neg (by omega)
    have k4 : zOf p x y = x := if_neg (by omega)
    rw [k1, k2]
    refine key pp ?_ ?_
    · rw [k3, k4]; exact .inr ⟨rfl, rfl⟩
    · rw [k3, k4]; exact .inl ⟨rfl, rfl⟩
  · have k1 : mOf (x, y) p.1 p.2 = p.2 := if_neg (by rintro ⟨h, _⟩; have h : x < p.1 := h; omega)
    have k2 : zOf (x, y) p.1 p.2 = p.1 := if_neg (by rintro ⟨h, _⟩; have h : x < p.1 := h; omega)
    have k3 : mOf p x y = x := if_pos ⟨by omega, by omega⟩
    have k4 : zOf p x y = y := if_pos ⟨by omega, by omega⟩
    rw [k1, k2]
    refine key ((pr_comm _ _).trans pp) ?_ ?_
    · rw [k3, k4]; exact .inl ⟨rfl, rfl⟩
    · rw [k3, k4]; exact .inr ⟨rfl, rfl⟩

/-! ### the law's own turning of ratios -/
def due4 (dm : List (Int × Int)) (R : Int × Int → Int × Int) (t1 t2 t3 t4 u v : Int × Int) : Nat → Int × Int → Int × Int
  | 0 => R
  | 1 => stepF dm R t1 u
  | 2 => stepF dm (stepF dm R t1 u) t3 v
  | 3 => stepF dm (stepF dm (stepF dm R t1 u) t3 v) t2 u
  | _ + 4 => stepF dm (stepF dm (stepF dm (stepF dm R t1 u) t3 v) t2 u) t4 v
theorem due4_at {dom : List (Int × Int)} {f : Int × Int → Int × Int} {t1 t2 t3 t4 u v q : Int × Int} (D : Four t1 t2 t3 t4) (h : q ∈ dom) : due4 dom f t1 t2 t3 t4 u v 4 q = if q = t1 ∨ q = t2 then mulV (f q) u else if q = t3 ∨ q = t4 then mulV (f q) v else f q := by
  show stepF dom (stepF dom (stepF dom (stepF dom f t1 u) t3 v) t2 u) t4 v q = _
  rw [stepF_at h, stepF_at h, stepF_at h, stepF_at h]
  by_cases h1 : q = t1
  · subst h1; simp [D.a, D.b, D.c]
  · by_cases h2 : q = t2
    · subst h2; simp [D.d, D.e, h1]
    · by_cases h3 : q = t3
      · subst h3; simp [D.f, h1, h2]
      · by_cases h4 : q = t4
        · subst h4; simp [h1, h2, h3]
        · simp [h1, h2, h3, h4]
def sp_ldue (K : PySem.W.Frag) : Sp := fun vs H Q _ => ∃ (n : Int) (c d : Addr) (v : V) (xs : List V) (l dom : List (Int × Int)) (R : Int × Int → Int × Int) (p : Int × Int) (x y : Int), vs = [.int n, .ref c, .ref d, v] ∧ 3 ≤ n ∧ n ≤ 12 ∧ H c = some (.lst xs) ∧ PrL K H xs l ∧ l.length ≤ 100 ∧ IsCut n l ∧
  PrAt K H v p ∧ p ∈ l ∧ Turns n l p x y ∧ FD K H d dom R ∧ (∀ p, p ∈ dom ↔ p ∈ l) ∧ (∀ p ∈ l, Frac 400 (R p)) ∧
  ∀ H' D, Same H H' → H D = none → FD K H' D ((dom.filter fun q => decide (q ≠ p)) ++ [(x, y)]) (tR R p x y) → Q (.ref D) H'
theorem Ents.drop {H : Hp} {kvs : List (List Key × V)} {dom : List (Int × Int)} {f : Int × Int → Int × Int} (h : Ents K H kvs dom f) (p : Int × Int) : Ents K H (dropK kvs (pk p)) (dom.filter fun q => decide (q ≠ p)) f := by
  induction h with
  | nil => exact .nil
  | @cons kv q xs ys h _ ih =>
    unfold dropK at ih ⊢
    by_cases e : q = p
    · rw [List.filter_cons_of_neg (by simp [h.1, e]), List.filter_cons_of_neg (by simp [e])]
      exact ih
    · rw [List.filter_cons_of_pos (by simpa using fun z => e (pk_inj (h.1.symm.trans z))), List.filter_cons_of_pos (by simpa using e)]
      exact .cons h ih
theorem div_one {b : Nat} {x : Int × Int} (h : Frac b x) : divV (1, 1) x = (x.2, x.1) := by
  unfold divV
  show lowI (1 * x.2) (1 * x.1) = _
  rw [Int.one_mul, Int.one_mul]
  exact lowI_self ⟨h.top, by rw [Nat.gcd_comm]; exact h.low.one⟩
theorem ok__law_due (T : Env K mg) : FnOk P w K mg base CX0 4 T.a__law_due T.fd__law_due ["_law_n", "_law_cut", "_law_rates", "_law_rope"] (sp_ldue K) := by
  refine T.F__law_due.ok sc__law_due (fun vs H Q E h => ?_) (fun cdv A outer s H vs Q E hr h => ?_)
  · obtain ⟨n, c, d, v, xs, l, dom, R, p, x, y, rfl, _⟩ := h
    rfl
  · obtain ⟨n, c, d, v, xs, l, dom, R, p, x, y, rfl, h3, h12, hc, hL, hl, hC, hv, hm, hT, hF, hdm, hfr, k1⟩ := h
    refine ⟨_, (pss_cons (ps_set (i := 4) sc__law_due.nd rfl (.inl rfl) (pe_call (ok__law_ring T) (hr.mono (by decide)) (by rfl) T.g__law_ring T.F__law_ring.kp T.b__law_ring .nil pass0 (pa_cons (pv 0) (pa_cons (pv 1) (pa_cons (pv 3) pa_nil)))))
 (C8.pss_cut (ps_if (pt_cmpR op_ne (pe_ix ix_list (pv 4) pe_int (fun _ _ => rfl)) (pe_ix ix_tup (pv 3) pe_int (fun _ _ => rfl)) (nomark _))
 (pss_one (ps_set (i := 4) sc__law_due.nd rfl (.inl rfl) (pe_op op_cat (pe_slice sl_list (pv 4) (po_some pe_int) po_none) (pe_slice sl_list (pv 4) po_none (po_some pe_int)))))
 pss_nil)
 (pss_cons (ps_set (i := 5) sc__law_due.nd rfl (.inl rfl) (pe_dget (hu_of hr) (pv 2) (pv 3) (fun _ _ => rfl)))
 (pss_cons (ps_set (i := 6) sc__law_due.nd rfl (.inl rfl) (pe_callTy (call_dictT (by exact hr.units)) (by rfl) T.m_dict (by decide +kernel) (pa_cons (pv 2) pa_nil)))
 (pss_cons (ps_expr (pe_bm PySem.F.plainAttrs_dict PySem.F.slot_dict_pop PySem.F.type_dict_pop (mt_pop1T (hu_of hr)) (pv 6) (pa_cons (pv 3) pa_nil)))
 (pss_cons (ps_for PassesOwn.never rfl (pi_range1 (by rfl) T.m_range (pa_cons pe_int pa_nil)) (pg_name (i := 7) sc__law_due.nd rfl (.inl rfl))
 (pss_cons (ps_set (i := 8) sc__law_due.nd rfl (.inl rfl) (pe_call (ok__law_pair T) (hr.mono (by decide)) (by rfl) T.g__law_pair T.F__law_pair.kp T.b__law_pair .nil pass0 (pa_cons (pe_ix ix_list (pv 4) (pv 7) (fun _ _ => rfl)) (pa_cons (pe_ix ix_list (pv 4) (pe_op op_mod (pe_op op_add (pv 7) pe_int) pe_int) (fun _ _ => rfl)) pa_nil))))
 (pss_one (ps_if (pt_cmp (pc_din (hu_of hr) (pv 8) (pv 6)))
 (pss_cons (ps_set (i := 9) sc__law_due.nd rfl (.inl rfl) (pe_call (ok__law_add T) (hr.mono (by decide)) (by rfl) T.g__law_add T.F__law_add.kp T.b__law_add .nil pass0 (pa_cons (pe_tup (pa_cons pe_int (pa_cons pe_int pa_nil))) (pa_cons (pv 5) pa_nil))))
 (C8.pss_cut (ps_if (pt_cmpR op_eq (pe_op op_mod (pv 7) pe_int) pe_int (nomark _))
 (pss_one (ps_set (i := 9) sc__law_due.nd rfl (.inl rfl) (pe_call (ok__law_div T) (hr.mono (by decide)) (by rfl) T.g__law_div T.F__law_div.kp T.b__law_div .nil pass0 (pa_cons (pv 5) (pa_cons (pv 9) pa_nil)))))
 pss_nil)
 (pss_one (ps_dput (hu_of hr) (pv 6) (pv 8) (pe_call (ok__law_mul T) (hr.mono (by decide)) (by rfl) T.g__law_mul T.F__law_mul.kp T.b__law_mul .nil pass0 (pa_cons (pe_dget (hu_of hr) (pv 6) (pv 8) (fun _ _ => rfl)) (pa_cons (pv 9) pa_nil))) rfl))))
 pss_nil))))
 (pss_cons (ps_dput (hu_of hr) (pv 6) (pe_call (ok__law_pair T) (hr.mono (by decide)) (by rfl) T.g__law_pair T.F__law_pair.kp T.b__law_pair .nil pass0 (pa_cons (pe_ix ix_list (pv 4) pe_int (fun _ _ => rfl)) (pa_cons (pe_ix ix_list (pv 4) pe_int (fun _ _ => rfl)) pa_nil))) (pe_tup (pa_cons (pe_ix ix_tup (pv 5) pe_int (fun _ _ => rfl)) (pa_cons (pe_ix ix_tup (pv 5) pe_int (fun _ _ => rfl)) pa_nil))) rfl)
 (pss_one (ps_ret (pv 6)))))))))), ?_⟩
    have hAr := round hT
    have hfour := four_of hAr
    have hmz := pr_mz hT
    have hpl := cut_lt hC hm
    refine ⟨_, rfl, _, rfl, _, rfl, n, c, v, xs, l, p, x, y, rfl, h3, h12, hc, hL, hl, hv, hT, fun H1 q ws s1 hq hwp hws => ?_⟩
    obtain ⟨t, rfl, ht⟩ := hv
    have hT1 : SqT K H1 t [.int p.1, .int p.2] := .inl (.inl (s1 _ _ ht))
    have hQ1 : SqL K H1 q (ws.map V.int) := .inl (.inl hq)
    have hpm : [p.1, p.2, x, y].Perm [p.1, mOf p x y, p.2, zOf p x y] := by
      unfold mOf zOf
      split
      · exact .cons _ (.swap ..)
      · exact .cons _ (List.perm_append_comm (l₁ := [p.2, x]) (l₂ := [y]))
    have hm0 := hAr.m0
    have hm1 := hAr.m1
    have hout := hAr.out
    generalize em : mOf p x y = m at *
    generalize ezo : zOf p x y = z at *
    refine ⟨fun σ H' => ∃ r, σ = [some (.int n), some (.ref c), some (.ref d), some (.ref t), some (.ref r), none, none, none, none, none] ∧ Same H H' ∧ H' r = some (.lst [.int p.1, .int m, .int p.2, .int z]), ?_, ?_⟩
    · rcases hout with ho | ho
      · have ew : ws = [z, p.1, m, p.2] := sort4 (hwp.trans (hpm.trans (List.perm_append_comm (l₁ := [p.1, m, p.2]) (l₂ := [z])))) hws (by simp; omega)
        subst ew
        refine ⟨_, rfl, q, _, _, _, rfl, rfl, hQ1, atI_nat (j := 0) rfl, _, rfl, t, _, _, _, rfl, rfl, hT1, atI_nat (j := 0) rfl, rfl, _, rfl, ?_⟩
        show if (!decide (V.int z = V.int p.1)) = true then _ else _
        rw [decide_eq_false (fun e => by have := V.int.inj e; omega)]
        refine iteT ?_
        refine ⟨_, rfl, 1, rfl, q, _, rfl, hQ1, fun c1 h1 => ?_⟩
        have u1 := same_new (o := .lst (cutV ([z, p.1, m, p.2].map V.int) (some (((1 : Nat) : Int))) none)) h1
        have e1 : (upd H1 c1 (.lst (cutV ([z, p.1, m, p.2].map V.int) (some (((1 : Nat) : Int))) none))) c1 = some (.lst [.int p.1, .int m, .int p.2]) := by rw [upd_same, cut_drop]; rfl
        generalize upd H1 c1 (.lst (cutV ([z, p.1, m, p.2].map V.int) (some (((1 : Nat) : Int))) none)) = H2 at *
        refine ⟨_, rfl, 1, rfl, q, _, rfl, u1.seq hQ1, fun c2 h2 => ?_⟩
        have u2 := same_new (o := .lst (cutV ([z, p.1, m, p.2].map V.int) none (some (((1 : Nat) : Int))))) h2
        have e2 : (upd H2 c2 (.lst (cutV ([z, p.1, m, p.2].map V.int) none (some (((1 : Nat) : Int)))))) c2 = some (.lst [.int z]) := by rw [upd_same, cut_take]; rfl
        generalize upd H2 c2 (.lst (cutV ([z, p.1, m, p.2].map V.int) none (some (((1 : Nat) : Int))))) = H3 at *
        refine ⟨c1, c2, _, _, rfl, rfl, u2 _ _ e1, e2, small200 (by show 4 ≤ 200; decide), fun c3 h3' => ?_⟩
        have u3 := same_new (o := .lst ([.int p.1, .int m, .int p.2] ++ [.int z])) h3'
        exact ⟨c3, rfl, ((s1.trans u1).trans u2).trans u3, upd_same⟩
      · have ew := sort4 (hwp.trans hpm) hws (by simp; omega)
        subst ew
        refine ⟨_, rfl, q, _, _, _, rfl, rfl, hQ1, atI_nat (j := 0) rfl, _, rfl, t, _, _, _, rfl, rfl, hT1, atI_nat (j := 0) rfl, rfl, _, rfl, iteNS rfl ?_⟩
        exact ⟨q, rfl, s1, hq⟩
    · rintro _ H2 ⟨r, rfl, s2, hr2⟩
      have FH2 := hF.mono s2
      obtain ⟨⟨kv0, e0, r0⟩, nd, sm⟩ := id FH2
      obtain ⟨v0, g0, q0⟩ := Ents.get r0 ((hdm p).mpr hm)
      have fp := hfr p hm
      have ht2 := s2 _ _ ht
      have hdl := dom_len nd hC.nd hdm
      refine ⟨_, rfl, _, rfl, d, v0, rfl, (by rw [← g0]; exact DGet.t e0 (key_pk ht2)), ?_⟩
      refine ⟨_, rfl, d, kv0, dom, rfl, e0, Ents.keys r0, nd, sm, fun g hg => ?_⟩
      have s3 := same_new (o := .dT kv0) hg
      have hg2 : (upd H2 g (.dT kv0)) g = some (.dT kv0) := upd_same
      have ng := hg
      generalize upd H2 g (.dT kv0) = H3 at *
      have r3 := Ents.tups (TupS.of s3) r0
      have tS4 : TupS H3 (upd H3 g (.dT (dropK kv0 (pk p)))) := fun w ys q => by
        rw [upd_ne (ne_of q hg2 (fun z => nomatch z))]
        exact q
      refine ⟨_, rfl, .inr (.inr (.inl ⟨rfl, .inr ⟨_, hg2⟩⟩)), _, rfl, g, kv0, pk p, t, v0, rfl, rfl, hg2, key_pk (s3 _ _ ht2), g0, ?_⟩
      have s4 : Same H2 (upd H3 g (.dT (dropK kv0 (pk p)))) := same_put s3 ng
      have hF4 : FD K (upd H3 g (.dT (dropK kv0 (pk p)))) g (dom.filter fun q => decide (q ≠ p)) R := ⟨⟨_, upd_same, Ents.tups tS4 (Ents.drop r3 p)⟩, nd.filter _, fun q hq => sm q (List.mem_filter.mp hq).1⟩
      generalize upd H3 g (.dT (dropK kv0 (pk p))) = H4 at *
      generalize edm : (dom.filter fun q => decide (q ≠ p)) = dm at *
      have hdml : dm.length ≤ 100 := by
        have := List.length_filter_le (fun q => decide (q ≠ p)) dom
        rw [edm] at this
        omega
      have hdmf : ∀ q ∈ dm, Frac 400 (R q) := fun q hq => by
        rw [← edm] at hq
        exact hfr q ((hdm q).mp (List.mem_filter.mp hq).1)
      have fm := addV_frac one_frac fp
      have fk := divV_frac fp fm
      have hr4 := s4 _ _ hr2
      have q04 := q0.mono s4
      refine ⟨4, rfl, by decide, by decide, for_range (lo := 0) (n := (4 : Int).toNat) (fun i σ H' => ∃ y1 y2 y3, σ = [some (.int n), some (.ref c), some (.ref d), some (.ref t), some (.ref r), some v0, some (.ref g), y1, y2, y3] ∧ Same H2 H' ∧ TupS H4 H' ∧ H' r = some (.lst [.int p.1, .int m, .int p.2, .int z]) ∧ FD K H' g dm (due4 dm R (pr p.1 m) (pr p.2 z) (pr m p.2) (pr z p.1) (addV (1, 1) (R p)) (divV (R p) (addV (1, 1) (R p))) i)) ⟨_, _, _, rfl, s4, fun _ _ h => h, hr4, hF4⟩ ?_ ?_⟩
      · rintro i σ H' hi ⟨y1, y2, y3, rfl, s5, t5, hr5, hF5⟩
        have hRr : SqL K H' r [.int p.1, .int m, .int p.2, .int z] := .inl (.inl hr5)
        match i, hi with
        | 0, hi =>
          refine ⟨_, rfl, _, rfl, r, _, _, _, rfl, rfl, hRr, atI_nat (j := 0) rfl, _, rfl, _, rfl, _, _, rfl, rfl, _, _, rfl, rfl, (by show (0 : Int) < _; decide), r, _, _, _, rfl, rfl, hRr, atI_nat (j := 1) rfl, p.1, m, rfl, fun u hu => ?_⟩
          have s6 := same_new (o := (.tup [.int (pr p.1 m).1, .int (pr p.1 m).2])) hu
          have hu2 : (upd H' u (.tup [.int (pr p.1 m).1, .int (pr p.1 m).2])) u = some (.tup [.int (pr p.1 m).1, .int (pr p.1 m).2]) := upd_same
          generalize upd H' u (.tup [.int (pr p.1 m).1, .int (pr p.1 m).2]) = H6 at *
          have hF6 := hF5.mono s6
          have hF6 : FD K H6 g dm R := hF6
          obtain ⟨⟨kz, ez, rz⟩, nz, sz⟩ := id hF6
          by_cases hd : (pr p.1 m) ∈ dm
          · obtain ⟨va, ga, qa⟩ := Ents.get rz hd
            have dg : DGet H6 g (.ref u) (some va) := by rw [← ga]; exact DGet.t ez (key_pk hu2)
            refine ⟨_, rfl, _, rfl, g, _, rfl, dg, _, rfl, iteT ?_⟩
            refine ⟨small200 (by show 2 ≤ 200; decide), fun o1 ho1 => ?_⟩
            have s7 := same_new (o := .tup [.int 1, .int 1]) ho1
            have ho2 : (upd H6 o1 (.tup [.int 1, .int 1])) o1 = some (.tup [.int 1, .int 1]) := upd_same
            generalize upd H6 o1 (.tup [.int 1, .int 1]) = H7 at *
            have t7 := t5.trans (TupS.of (s6.trans s7))
            refine ⟨_, rfl, .ref o1, v0, (1, 1), R p, rfl, ⟨o1, rfl, ho2⟩, PrAt.tups t7 q04, one_frac.more (by decide), fp.more (by decide), fun H8 vf s8 hvf => ?_⟩
            have s68 := s7.trans s8
            have t8 := t7.trans (TupS.of s8)
            refine ⟨fun σ H' => ∃ vf, σ = [some (.int n), some (.ref c), some (.ref d), some (.ref t), some (.ref r), some v0, some (.ref g), some (.int (0 + ((0 : Nat) : Int))), some (.ref u), some vf] ∧ Same H8 H' ∧ PrAt K H' vf (addV (1, 1) (R p)), ?_, ?_⟩
            · refine ⟨_, rfl, _, _, rfl, rfl, (by show (0 : Int) < _; decide), rfl, _, rfl, ite2 (fun hdd => ?_) (fun hdd => ?_)⟩
              · exact absurd (V.int.inj (of_decide_eq_true hdd)) (by decide)
              · exact ⟨vf, rfl, Same.refl _, hvf⟩
            · rintro _ H9 ⟨vg, rfl, s9, hvg⟩
              have s69 := s68.trans s9
              obtain ⟨⟨ky, ey, ry⟩, ny, sy⟩ := hF6.mono s69
              obtain ⟨vb, gb, qb⟩ := Ents.get ry hd
              have dgb : DGet H9 g (.ref u) (some vb) := by rw [← gb]; exact DGet.t ey (key_pk (s69 _ _ hu2))
              refine ⟨_, rfl, _, rfl, g, vb, rfl, dgb, _, rfl, vb, vg, _, (addV (1, 1) (R p)), rfl, qb, hvg, (hdmf _ hd).more (by decide), fm.more (by decide), fun HA vh sA hvh => ?_⟩
              obtain ⟨⟨kx, ex, rx⟩, nx, sx⟩ := hF6.mono (s69.trans sA)
              have hfew := rx.length
              refine ⟨_, rfl, _, rfl, g, _, rfl, DPut.t ex (key_pk ((s69.trans sA) _ _ hu2)) (small200' (by omega)), ?_⟩
              have tD : TupS HA (upd HA g (.dT (putK kx (pk (pr p.1 m)) vh))) := fun w ys q => by
                rw [upd_ne (ne_of q ex (fun z => nomatch z))]
                exact q
              have s6A := (s6.trans s69).trans sA
              refine ⟨_, _, _, rfl, same_put (s5.trans s6A) ng, (t5.trans (TupS.of s6A)).trans tD, ?_, FD.val (FD.set nx sx ex rx hd hvh) fun q _ => ?_⟩
              · rw [upd_ne (ne_of (s6A _ _ hr5) ex (fun z => nomatch z))]
                exact s6A _ _ hr5
              · show setF R (pr p.1 m) (mulV (R (pr p.1 m)) (addV (1, 1) (R p))) q = stepF dm R (pr p.1 m) (addV (1, 1) (R p)) q
                rw [show stepF dm R (pr p.1 m) (addV (1, 1) (R p)) = setF R (pr p.1 m) (mulV (R (pr p.1 m)) (addV (1, 1) (R p))) from if_pos hd]
          · have dg : DGet H6 g (.ref u) none := by rw [← Ents.not rz hd]; exact DGet.t ez (key_pk hu2)
            refine ⟨_, rfl, _, rfl, g, _, rfl, dg, _, rfl, iteF ?_⟩
            refine ⟨_, _, _, rfl, s5.trans s6, t5.trans (TupS.of s6), s6 _ _ hr5, FD.val hF6 fun q _ => ?_⟩
            show R q = stepF dm R (pr p.1 m) (addV (1, 1) (R p)) q
            rw [show stepF dm R (pr p.1 m) (addV (1, 1) (R p)) = R from if_neg hd]
        | 1, hi =>
          refine ⟨_, rfl, _, rfl, r, _, _, _, rfl, rfl, hRr, atI_nat (j := 1) rfl, _, rfl, _, rfl, _, _, rfl, rfl, _, _, rfl, rfl, (by show (0 : Int) < _; decide), r, _, _, _, rfl, rfl, hRr, atI_nat (j := 2) rfl, m, p.2, rfl, fun u hu => ?_⟩
          have s6 := same_new (o := (.tup [.int (pr m p.2).1, .int (pr m p.2).2])) hu
          have hu2 : (upd H' u (.tup [.int (pr m p.2).1, .int (pr m p.2).2])) u = some (.tup [.int (pr m p.2).1, .int (pr m p.2).2]) := upd_same
          generalize upd H' u (.tup [.int (pr m p.2).1, .int (pr m p.2).2]) = H6 at *
          have hF6 := hF5.mono s6
          have hF6 : FD K H6 g dm (stepF dm R (pr p.1 m) (addV (1, 1) (R p))) := hF6
          obtain ⟨⟨kz, ez, rz⟩, nz, sz⟩ := id hF6
          by_cases hd : (pr m p.2) ∈ dm
          · obtain ⟨va, ga, qa⟩ := Ents.get rz hd
            have dg : DGet H6 g (.ref u) (some va) := by rw [← ga]; exact DGet.t ez (key_pk hu2)
            refine ⟨_, rfl, _, rfl, g, _, rfl, dg, _, rfl, iteT ?_⟩
            refine ⟨small200 (by show 2 ≤ 200; decide), fun o1 ho1 => ?_⟩
            have s7 := same_new (o := .tup [.int 1, .int 1]) ho1
            have ho2 : (upd H6 o1 (.tup [.int 1, .int 1])) o1 = some (.tup [.int 1, .int 1]) := upd_same
            generalize upd H6 o1 (.tup [.int 1, .int 1]) = H7 at *
            have t7 := t5.trans (TupS.of (s6.trans s7))
            refine ⟨_, rfl, .ref o1, v0, (1, 1), R p, rfl, ⟨o1, rfl, ho2⟩, PrAt.tups t7 q04, one_frac.more (by decide), fp.more (by decide), fun H8 vf s8 hvf => ?_⟩
            have s68 := s7.trans s8
            have t8 := t7.trans (TupS.of s8)
            refine ⟨fun σ H' => ∃ vf, σ = [some (.int n), some (.ref c), some (.ref d), some (.ref t), some (.ref r), some v0, some (.ref g), some (.int (0 + ((1 : Nat) : Int))), some (.ref u), some vf] ∧ Same H8 H' ∧ PrAt K H' vf (divV (R p) (addV (1, 1) (R p))), ?_, ?_⟩
            · refine ⟨_, rfl, _, _, rfl, rfl, (by show (0 : Int) < _; decide), rfl, _, rfl, ite2 (fun hdd => ?_) (fun hdd => ?_)⟩
              · exact ⟨_, rfl, _, rfl, v0, vf, R p, (addV (1, 1) (R p)), rfl, PrAt.tups t8 q04, hvf, fp.more (by decide), fm.more (by decide), fun H9 vd s9 hvd => ⟨vd, rfl, s9, hvd⟩⟩
              · exact absurd (decide_eq_true (by rfl)) hdd
            · rintro _ H9 ⟨vg, rfl, s9, hvg⟩
              have s69 := s68.trans s9
              obtain ⟨⟨ky, ey, ry⟩, ny, sy⟩ := hF6.mono s69
              obtain ⟨vb, gb, qb⟩ := Ents.get ry hd
              have dgb : DGet H9 g (.ref u) (some vb) := by rw [← gb]; exact DGet.t ey (key_pk (s69 _ _ hu2))
              refine ⟨_, rfl, _, rfl, g, vb, rfl, dgb, _, rfl, vb, vg, _, (divV (R p) (addV (1, 1) (R p))), rfl, qb, hvg, ((stepF_frac (t := (pr p.1 m)) hdmf fm) _ hd).more (by decide), fk.more (by decide), fun HA vh sA hvh => ?_⟩
              obtain ⟨⟨kx, ex, rx⟩, nx, sx⟩ := hF6.mono (s69.trans sA)
              have hfew := rx.length
              refine ⟨_, rfl, _, rfl, g, _, rfl, DPut.t ex (key_pk ((s69.trans sA) _ _ hu2)) (small200' (by omega)), ?_⟩
              have tD : TupS HA (upd HA g (.dT (putK kx (pk (pr m p.2)) vh))) := fun w ys q => by
                rw [upd_ne (ne_of q ex (fun z => nomatch z))]
                exact q
              have s6A := (s6.trans s69).trans sA
              refine ⟨_, _, _, rfl, same_put (s5.trans s6A) ng, (t5.trans (TupS.of s6A)).trans tD, ?_, FD.val (FD.set nx sx ex rx hd hvh) fun q _ => ?_⟩
              · rw [upd_ne (ne_of (s6A _ _ hr5) ex (fun z => nomatch z))]
                exact s6A _ _ hr5
              · show setF (stepF dm R (pr p.1 m) (addV (1, 1) (R p))) (pr m p.2) (mulV ((stepF dm R (pr p.1 m) (addV (1, 1) (R p))) (pr m p.2)) (divV (R p) (addV (1, 1) (R p)))) q = stepF dm (stepF dm R (pr p.1 m) (addV (1, 1) (R p))) (pr m p.2) (divV (R p) (addV (1, 1) (R p))) q
                rw [show stepF dm (stepF dm R (pr p.1 m) (addV (1, 1) (R p))) (pr m p.2) (divV (R p) (addV (1, 1) (R p))) = setF (stepF dm R (pr p.1 m) (addV (1, 1) (R p))) (pr m p.2) (mulV ((stepF dm R (pr p.1 m) (addV (1, 1) (R p))) (pr m p.2)) (divV (R p) (addV (1, 1) (R p)))) from if_pos hd]
          · have dg : DGet H6 g (.ref u) none := by rw [← Ents.not rz hd]; exact DGet.t ez (key_pk hu2)
            refine ⟨_, rfl, _, rfl, g, _, rfl, dg, _, rfl, iteF ?_⟩
            refine ⟨_, _, _, rfl, s5.trans s6, t5.trans (TupS.of s6), s6 _ _ hr5, FD.val hF6 fun q _ => ?_⟩
            show (stepF dm R (pr p.1 m) (addV (1, 1) (R p))) q = stepF dm (stepF dm R (pr p.1 m) (addV (1, 1) (R p))) (pr m p.2) (divV (R p) (addV (1, 1) (R p))) q
            rw [show stepF dm (stepF dm R (pr p.1 m) (addV (1, 1) (R p))) (pr m p.2) (divV (R p) (addV (1, 1) (R p))) = (stepF dm R (pr p.1 m) (addV (1, 1) (R p))) from if_neg hd]
        | 2, hi =>
          refine ⟨_, rfl, _, rfl, r, _, _, _, rfl, rfl, hRr, atI_nat (j := 2) rfl, _, rfl, _, rfl, _, _, rfl, rfl, _, _, rfl, rfl, (by show (0 : Int) < _; decide), r, _, _, _, rfl, rfl, hRr, atI_nat (j := 3) rfl, p.2, z, rfl, fun u hu => ?_⟩
          have s6 := same_new (o := (.tup [.int (pr p.2 z).1, .int (pr p.2 z).2])) hu
          have hu2 : (upd H' u (.tup [.int (pr p.2 z).1, .int (pr p.2 z).2])) u = some (.tup [.int (pr p.2 z).1, .int (pr p.2 z).2]) := upd_same
          generalize upd H' u (.tup [.int (pr p.2 z).1, .int (pr p.2 z).2]) = H6 at *
          have hF6 := hF5.mono s6
          have hF6 : FD K H6 g dm (stepF dm (stepF dm R (pr p.1 m) (addV (1, 1) (R p))) (pr m p.2) (divV (R p) (addV (1, 1) (R p)))) := hF6
          obtain ⟨⟨kz, ez, rz⟩, nz, sz⟩ := id hF6
          by_cases hd : (pr p.2 z) ∈ dm
          · obtain ⟨va, ga, qa⟩ := Ents.get rz hd
            have dg : DGet H6 g (.ref u) (some va) := by rw [← ga]; exact DGet.t ez (key_pk hu2)
            refine ⟨_, rfl, _, rfl, g, _, rfl, dg, _, rfl, iteT ?_⟩
            refine ⟨small200 (by show 2 ≤ 200; decide), fun o1 ho1 => ?_⟩
            have s7 := same_new (o := .tup [.int 1, .int 1]) ho1
            have ho2 : (upd H6 o1 (.tup [.int 1, .int 1])) o1 = some (.tup [.int 1, .int 1]) := upd_same
            generalize upd H6 o1 (.tup [.int 1, .int 1]) = H7 at *
            have t7 := t5.trans (TupS.of (s6.trans s7))
            refine ⟨_, rfl, .ref o1, v0, (1, 1), R p, rfl, ⟨o1, rfl, ho2⟩, PrAt.tups t7 q04, one_frac.more (by decide), fp.more (by decide), fun H8 vf s8 hvf => ?_⟩
            have s68 := s7.trans s8
            have t8 := t7.trans (TupS.of s8)
            refine ⟨fun σ H' => ∃ vf, σ = [some (.int n), some (.ref c), some (.ref d), some (.ref t), some (.ref r), some v0, some (.ref g), some (.int (0 + ((2 : Nat) : Int))), some (.ref u), some vf] ∧ Same H8 H' ∧ PrAt K H' vf (addV (1, 1) (R p)), ?_, ?_⟩
            · refine ⟨_, rfl, _, _, rfl, rfl, (by show (0 : Int) < _; decide), rfl, _, rfl, ite2 (fun hdd => ?_) (fun hdd => ?_)⟩
              · exact absurd (V.int.inj (of_decide_eq_true hdd)) (by decide)
              · exact ⟨vf, rfl, Same.refl _, hvf⟩
            · rintro _ H9 ⟨vg, rfl, s9, hvg⟩
              have s69 := s68.trans s9
              obtain ⟨⟨ky, ey, ry⟩, ny, sy⟩ := hF6.mono s69
              obtain ⟨vb, gb, qb⟩ := Ents.get ry hd
              have dgb : DGet H9 g (.ref u) (some vb) := by rw [← gb]; exact DGet.t ey (key_pk (s69 _ _ hu2))
              refine ⟨_, rfl, _, rfl, g, vb, rfl, dgb, _, rfl, vb, vg, _, (addV (1, 1) (R p)), rfl, qb, hvg, ((stepF_frac (t := (pr m p.2)) (stepF_frac (t := (pr p.1 m)) hdmf fm) fk) _ hd).more (by decide), fm.more (by decide), fun HA vh sA hvh => ?_⟩
              obtain ⟨⟨kx, ex, rx⟩, nx, sx⟩ := hF6.mono (s69.trans sA)
              have hfew := rx.length
              refine ⟨_, rfl, _, rfl, g, _, rfl, DPut.t ex (key_pk ((s69.trans sA) _ _ hu2)) (small200' (by omega)), ?_⟩
              have tD : TupS HA (upd HA g (.dT (putK kx (pk (pr p.2 z)) vh))) := fun w ys q => by
                rw [upd_ne (ne_of q ex (fun z => nomatch z))]
                exact q
              have s6A := (s6.trans s69).trans sA
              refine ⟨_, _, _, rfl, same_put (s5.trans s6A) ng, (t5.trans (TupS.of s6A)).trans tD, ?_, FD.val (FD.set nx sx ex rx hd hvh) fun q _ => ?_⟩
              · rw [upd_ne (ne_of (s6A _ _ hr5) ex (fun z => nomatch z))]
                exact s6A _ _ hr5
              · show setF (stepF dm (stepF dm R (pr p.1 m) (addV (1, 1) (R p))) (pr m p.2) (divV (R p) (addV (1, 1) (R p)))) (pr p.2 z) (mulV ((stepF dm (stepF dm R (pr p.1 m) (addV (1, 1) (R p))) (pr m p.2) (divV (R p) (addV (1, 1) (R p)))) (pr p.2 z)) (addV (1, 1) (R p))) q = stepF dm (stepF dm (stepF dm R (pr p.1 m) (addV (1, 1) (R p))) (pr m p.2) (divV (R p) (addV (1, 1) (R p)))) (pr p.2 z) (addV (1, 1) (R p)) q
                rw [show stepF dm (stepF dm (stepF dm R (pr p.1 m) (addV (1, 1) (R p))) (pr m p.2) (divV (R p) (addV (1, 1) (R p)))) (pr p.2 z) (addV (1, 1) (R p)) = setF (stepF dm (stepF dm R (pr p.1 m) (addV (1, 1) (R p))) (pr m p.2) (divV (R p) (addV (1, 1) (R p)))) (pr p.2 z) (mulV ((stepF dm (stepF dm R (pr p.1 m) (addV (1, 1) (R p))) (pr m p.2) (divV (R p) (addV (1, 1) (R p)))) (pr p.2 z)) (addV (1, 1) (R p))) from if_pos hd]
          · have dg : DGet H6 g (.ref u) none := by rw [← Ents.not rz hd]; exact DGet.t ez (key_pk hu2)
            refine ⟨_, rfl, _, rfl, g, _, rfl, dg, _, rfl, iteF ?_⟩
            refine ⟨_, _, _, rfl, s5.trans s6, t5.trans (TupS.of s6), s6 _ _ hr5, FD.val hF6 fun q _ => ?_⟩
            show (stepF dm (stepF dm R (pr p.1 m) (addV (1, 1) (R p))) (pr m p.2) (divV (R p) (addV (1, 1) (R p)))) q = stepF dm (stepF dm (stepF dm R (pr p.1 m) (addV (1, 1) (R p))) (pr m p.2) (divV (R p) (addV (1, 1) (R p)))) (pr p.2 z) (addV (1, 1) (R p)) q
            rw [show stepF dm (stepF dm (stepF dm R (pr p.1 m) (addV (1, 1) (R p))) (pr m p.2) (divV (R p) (addV (1, 1) (R p)))) (pr p.2 z) (addV (1, 1) (R p)) = (stepF dm (stepF dm R (pr p.1 m) (addV (1, 1) (R p))) (pr m p.2) (divV (R p) (addV (1, 1) (R p)))) from if_neg hd]
        | 3, hi =>
          refine ⟨_, rfl, _, rfl, r, _, _, _, rfl, rfl, hRr, atI_nat (j := 3) rfl, _, rfl, _, rfl, _, _, rfl, rfl, _, _, rfl, rfl, (by show (0 : Int) < _; decide), r, _, _, _, rfl, rfl, hRr, atI_nat (j := 0) rfl, z, p.1, rfl, fun u hu => ?_⟩
          have s6 := same_new (o := (.tup [.int (pr z p.1).1, .int (pr z p.1).2])) hu
          have hu2 : (upd H' u (.tup [.int (pr z p.1).1, .int (pr z p.1).2])) u = some (.tup [.int (pr z p.1).1, .int (pr z p.1).2]) := upd_same
          generalize upd H' u (.tup [.int (pr z p.1).1, .int (pr z p.1).2]) = H6 at *
          have hF6 := hF5.mono s6
          have hF6 : FD K H6 g dm (stepF dm (stepF dm (stepF dm R (pr p.1 m) (addV (1, 1) (R p))) (pr m p.2) (divV (R p) (addV (1, 1) (R p)))) (pr p.2 z) (addV (1, 1) (R p))) := hF6
          obtain ⟨⟨kz, ez, rz⟩, nz, sz⟩ := id hF6
          by_cases hd : (pr z p.1) ∈ dm
          · obtain ⟨va, ga, qa⟩ := Ents.get rz hd
            have dg : DGet H6 g (.ref u) (some va) := by rw [← ga]; exact DGet.t ez (key_pk hu2)
            refine ⟨_, rfl, _, rfl, g, _, rfl, dg, _, rfl, iteT ?_⟩
            refine ⟨small200 (by show 2 ≤ 200; decide), fun o1 ho1 => ?_⟩
            have s7 := same_new (o := .tup [.int 1, .int 1]) ho1
            have ho2 : (upd H6 o1 (.tup [.int 1, .int 1])) o1 = some (.tup [.int 1, .int 1]) := upd_same
            generalize upd H6 o1 (.tup [.int 1, .int 1]) = H7 at *
            have t7 := t5.trans (TupS.of (s6.trans s7))
            refine ⟨_, rfl, .ref o1, v0, (1, 1), R p, rfl, ⟨o1, rfl, ho2⟩, PrAt.tups t7 q04, one_frac.more (by decide), fp.more (by decide), fun H8 vf s8 hvf => ?_⟩
            have s68 := s7.trans s8
            have t8 := t7.trans (TupS.of s8)
            refine ⟨fun σ H' => ∃ vf, σ = [some (.int n), some (.ref c), some (.ref d), some (.ref t), some (.ref r), some v0, some (.ref g), some (.int (0 + ((3 : Nat) : Int))), some (.ref u), some vf] ∧ Same H8 H' ∧ PrAt K H' vf (divV (R p) (addV (1, 1) (R p))), ?_, ?_⟩
            · refine ⟨_, rfl, _, _, rfl, rfl, (by show (0 : Int) < _; decide), rfl, _, rfl, ite2 (fun hdd => ?_) (fun hdd => ?_)⟩
              · exact ⟨_, rfl, _, rfl, v0, vf, R p, (addV (1, 1) (R p)), rfl, PrAt.tups t8 q04, hvf, fp.more (by decide), fm.more (by decide), fun H9 vd s9 hvd => ⟨vd, rfl, s9, hvd⟩⟩
              · exact absurd (decide_eq_true (by rfl)) hdd
            · rintro _ H9 ⟨vg, rfl, s9, hvg⟩
              have s69 := s68.trans s9
              obtain ⟨⟨ky, ey, ry⟩, ny, sy⟩ := hF6.mono s69
              obtain ⟨vb, gb, qb⟩ := Ents.get ry hd
              have dgb : DGet H9 g (.ref u) (some vb) := by rw [← gb]; exact DGet.t ey (key_pk (s69 _ _ hu2))
              refine ⟨_, rfl, _, rfl, g, vb, rfl, dgb, _, rfl, vb, vg, _, (divV (R p) (addV (1, 1) (R p))), rfl, qb, hvg, ((stepF_frac (t := (pr p.2 z)) (stepF_frac (t := (pr m p.2)) (stepF_frac (t := (pr p.1 m)) hdmf fm) fk) fm) _ hd).more (by decide), fk.more (by decide), fun HA vh sA hvh => ?_⟩
              obtain ⟨⟨kx, ex, rx⟩, nx, sx⟩ := hF6.mono (s69.trans sA)
              have hfew := rx.length
              refine ⟨_, rfl, _, rfl, g, _, rfl, DPut.t ex (key_pk ((s69.trans sA) _ _ hu2)) (small200' (by omega)), ?_⟩
              have tD : TupS HA (upd HA g (.dT (putK kx (pk (pr z p.1)) vh))) := fun w ys q => by
                rw [upd_ne (ne_of q ex (fun z => nomatch z))]
                exact q
              have s6A := (s6.trans s69).trans sA
              refine ⟨_, _, _, rfl, same_put (s5.trans s6A) ng, (t5.trans (TupS.of s6A)).trans tD, ?_, FD.val (FD.set nx sx ex rx hd hvh) fun q _ => ?_⟩
              · rw [upd_ne (ne_of (s6A _ _ hr5) ex (fun z => nomatch z))]
                exact s6A _ _ hr5
              · show setF (stepF dm (stepF dm (stepF dm R (pr p.1 m) (addV (1, 1) (R p))) (pr m p.2) (divV (R p) (addV (1, 1) (R p)))) (pr p.2 z) (addV (1, 1) (R p))) (pr z p.1) (mulV ((stepF dm (stepF dm (stepF dm R (pr p.1 m) (addV (1, 1) (R p))) (pr m p.2) (divV (R p) (addV (1, 1) (R p)))) (pr p.2 z) (addV (1, 1) (R p))) (pr z p.1)) (divV (R p) (addV (1, 1) (R p)))) q = stepF dm (stepF dm (stepF dm (stepF dm R (pr p.1 m) (addV (1, 1) (R p))) (pr m p.2) (divV (R p) (addV (1, 1) (R p)))) (pr p.2 z) (addV (1, 1) (R p))) (pr z p.1) (divV (R p) (addV (1, 1) (R p))) q
                rw [show stepF dm (stepF dm (stepF dm (stepF dm R (pr p.1 m) (addV (1, 1) (R p))) (pr m p.2) (divV (R p) (addV (1, 1) (R p)))) (pr p.2 z) (addV (1, 1) (R p))) (pr z p.1) (divV (R p) (addV (1, 1) (R p))) = setF (stepF dm (stepF dm (stepF dm R (pr p.1 m) (addV (1, 1) (R p))) (pr m p.2) (divV (R p) (addV (1, 1) (R p)))) (pr p.2 z) (addV (1, 1) (R p))) (pr z p.1) (mulV ((stepF dm (stepF dm (stepF dm R (pr p.1 m) (addV (1, 1) (R p))) (pr m p.2) (divV (R p) (addV (1, 1) (R p)))) (pr p.2 z) (addV (1, 1) (R p))) (pr z p.1)) (divV (R p) (addV (1, 1) (R p)))) from if_pos hd]
          · have dg : DGet H6 g (.ref u) none := by rw [← Ents.not rz hd]; exact DGet.t ez (key_pk hu2)
            refine ⟨_, rfl, _, rfl, g, _, rfl, dg, _, rfl, iteF ?_⟩
            refine ⟨_, _, _, rfl, s5.trans s6, t5.trans (TupS.of s6), s6 _ _ hr5, FD.val hF6 fun q _ => ?_⟩
            show (stepF dm (stepF dm (stepF dm R (pr p.1 m) (addV (1, 1) (R p))) (pr m p.2) (divV (R p) (addV (1, 1) (R p)))) (pr p.2 z) (addV (1, 1) (R p))) q = stepF dm (stepF dm (stepF dm (stepF dm R (pr p.1 m) (addV (1, 1) (R p))) (pr m p.2) (divV (R p) (addV (1, 1) (R p)))) (pr p.2 z) (addV (1, 1) (R p))) (pr z p.1) (divV (R p) (addV (1, 1) (R p))) q
            rw [show stepF dm (stepF dm (stepF dm (stepF dm R (pr p.1 m) (addV (1, 1) (R p))) (pr m p.2) (divV (R p) (addV (1, 1) (R p)))) (pr p.2 z) (addV (1, 1) (R p))) (pr z p.1) (divV (R p) (addV (1, 1) (R p))) = (stepF dm (stepF dm (stepF dm R (pr p.1 m) (addV (1, 1) (R p))) (pr m p.2) (divV (R p) (addV (1, 1) (R p)))) (pr p.2 z) (addV (1, 1) (R p))) from if_neg hd]
        | i + 4, hi => exact absurd hi (by show ¬ (i + 4 < 4); omega)
      · rintro σ H5 ⟨y1, y2, y3, rfl, s5, t5, hr5, hF5⟩
        have hF5 : FD K H5 g dm (due4 dm R (pr p.1 m) (pr p.2 z) (pr m p.2) (pr z p.1) (addV (1, 1) (R p)) (divV (R p) (addV (1, 1) (R p))) 4) := hF5
        have hRr : SqL K H5 r [.int p.1, .int m, .int p.2, .int z] := .inl (.inl hr5)
        have q05 := PrAt.tups t5 q04
        obtain ⟨w0, rfl, hw0⟩ := q05.sq
        refine ⟨_, rfl, w0, _, _, _, rfl, rfl, hw0, atI_nat (j := 1) rfl, _, rfl, w0, _, _, _, rfl, rfl, hw0, atI_nat (j := 0) rfl, small200 (by show 2 ≤ 200; decide), fun o1 ho1 => ?_⟩
        have s6 := same_new (o := .tup [.int (R p).2, .int (R p).1]) ho1
        have ho2 : (upd H5 o1 (.tup [.int (R p).2, .int (R p).1])) o1 = some (.tup [.int (R p).2, .int (R p).1]) := upd_same
        generalize upd H5 o1 (.tup [.int (R p).2, .int (R p).1]) = H6 at *
        have hRr6 := s6.seq hRr
        refine ⟨_, rfl, _, rfl, r, _, _, _, rfl, rfl, hRr6, atI_nat (j := 1) rfl, _, rfl, r, _, _, _, rfl, rfl, hRr6, atI_nat (j := 3) rfl, m, z, rfl, fun u hu => ?_⟩
        have s7 := same_new (o := .tup [.int (pr m z).1, .int (pr m z).2]) hu
        have hu2 : (upd H6 u (.tup [.int (pr m z).1, .int (pr m z).2])) u = some (.tup [.int (pr m z).1, .int (pr m z).2]) := upd_same
        generalize upd H6 u (.tup [.int (pr m z).1, .int (pr m z).2]) = H7 at *
        have s57 := s6.trans s7
        obtain ⟨⟨kz, ez, rz⟩, nz, sz⟩ := hF5.mono s57
        rw [hmz] at hu2
        have hnew : (x, y) ∉ dm := fun hmm => by
          rw [← edm] at hmm
          exact hT.new ((hdm _).mp (List.mem_filter.mp hmm).1)
        have hfew := rz.length
        have h0 := hT.x0
        have h1 := hT.xy
        have h2 := hT.yn
        refine ⟨g, _, rfl, DPut.t ez (key_pk (p := (x, y)) hu2) (small200' (by omega)), ?_⟩
        have sZ := s2.trans (s5.trans s57)
        have nD0 := none_back s2 ng
        refine ⟨_, rfl, k1 _ g (same_put sZ nD0) nD0 (FD.val (FD.put nz sz ez rz hnew ⟨h0, by show x < 13; omega, by show 0 ≤ y; omega, by show y < 13; omega⟩ (x := ((R p).2, (R p).1)) ⟨o1, rfl, s7 _ _ ho2⟩) fun q hq => ?_)⟩
        have hq' := List.mem_append.mp hq
        unfold setF tR turnedR
        rw [em, ezo, hmz]
        by_cases e : q = (x, y)
        · rw [if_pos e, if_pos e, div_one fp]
        · rw [if_neg e, if_neg e]
          have hqd := hq'.resolve_right (fun z => e (List.mem_singleton.mp z))
          exact due4_at hfour hqd

/-! ### sorting of tuples, an empty one among them -/
section
open PySem.SeqAt PySem.W PySem.Calls
theorem call_tuple_lt {A : PySem.Around} {s : Shared} {prog : Program} {w : World} {E : Value → Shared → Prop} {Q : Value → Shared → Prop} {l b : Addr} {items items2 : Array Value} {e r : Nat → Bool} (hl : s.heap.IsTuple l items) (hb : s.heap.IsTuple b items2)
    (he : ∀ j (h1 : j < items.size) (h2 : j < items2.size), EqAt A.in1 s items[j] items2[j] (e j)) (hr : ∀ j (h1 : j < items.size) (h2 : j < items2.size), e j = false → RcLt A.in1 s items[j] items2[j] (r j))
    (h : Q (.bool (firstLt e r (decide (items.size < items2.size)) (List.range (min items.size items2.size)))) s) : wpAny (model prog w) A (call (.builtin "tuple.__lt__") [.ref l, .ref b]) Q E s := by
  obtain ⟨⟨cls, dd, data, sl⟩, ho, hc, n, hd⟩ := id hl
  obtain ⟨⟨cls2, dd2, data2, sl2⟩, ho2, hc2, n2, hd2⟩ := id hb
  simp only at hc hd hc2 hd2
  subst hc hd hc2 hd2
  exact call_meets F.slot_tuple_lt ⟨_, ho, rfl⟩ F.entry_tuple_lt (F.args_tuple_lt_2 _ _) (PySem.SeqAt.tuple_ltAt l b items items2 n n2 dd dd2 sl sl2 e r) ⟨ho, ho2, he, hr, h⟩
theorem oneLt_tuple {prog : Program} {w : World} {A : PySem.Around} {E : Value → Shared → Prop} {s : Shared} {xs ys : List PyData} {a b : Value} {as bs : List Addr} {Q : Bool → Shared → Prop} (ra : Reads s.heap a (.tuple xs) as) (rb : Reads s.heap b (.tuple ys) bs) (h : alike (.tuple xs) (.tuple ys) = true)
    (hu : A.units + min (PyData.tuple xs).depth (PyData.tuple ys).depth < cLine) (hq : Q (dataLt (.tuple xs) (.tuple ys)) s) : wpAny (model prog w) A (oneLt' true a b) Q E s := by
  have hal : alikeAll xs ys = true := by simpa [alike] using h
  cases ra with
  | @tuple l o vs n _ as₁ h1 h2 h3 h4 =>
    cases rb with
    | @tuple l' o' vs' n' _ bs₁ k1 k2 k3 k4 =>
      have n1 : vs.size = xs.length := by simpa using ReadsAll.length _ _ _ h4
      have n2 : vs'.size = ys.length := by simpa using ReadsAll.length _ _ _ k4
      rw [dataLt_tuple, ← firstLt_toks xs ys hal, ← n1, ← n2] at hq
      rw [oneLt'_eq]
      simp only [if_true]
      refine wpAny_bind (wpAny_cRoomFor (room_here hu) ?_)
      refine wpAny_bind (wpAny_callSpecialIfBound?_slot (T := "tuple") ⟨_, h1, h2⟩ F.slot_tuple_lt (call_tuple_lt (e := pairEq xs ys) (r := fun j => dataLt (xs.getD j .none) (ys.getD j .none)) ⟨_, h1, h2, _, h3⟩ ⟨_, k1, k2, _, k3⟩ (fun j j1 j2 => ?_) (fun j j1 j2 hj => ?_) ?_))
      · have := eqAt_alikeAll xs ys A.in1 s vs.toList vs'.toList _ _ h4 k4 hal (room_in hu) j (by simpa using j1) (by simpa using j2)
        simpa using this
      · have := rcLt_alikeAll xs ys A.in1 s vs.toList vs'.toList _ _ h4 k4 hal (room_in hu) j (by simpa using j1) (by simpa using j2) hj
        simpa using this
      · exact wpAny_truthy_bool hq
theorem keyLt_general (x y : Value) : keyLt' general' x y = oneLt' false x y := rfl
def isE : PyData → Bool
  | .tuple [] => true
  | _ => false
theorem isE_iff (d : PyData) : isE d = true ↔ d = .tuple [] := by
  constructor
  · intro h
    unfold isE at h
    split at h
    · rfl
    · cases h
  · rintro rfl; rfl
/-- the first items of tuples, or none -/
theorem my_firsts {M : Model} {A : PySem.Around} {E : Value → Shared → Prop} {s : Shared} : ∀ {vs : List Value} {ds : List PyData}, EachIs (fun v d => ∃ as, Reads s.heap v d as) vs ds → (∀ d ∈ ds, ∃ l, d = .tuple l) →
    ∃ fs : List (Option Value), fs.map (·.isSome) = ds.map (fun d => !isE d) ∧ ∀ Q : List (Option Value) → Shared → Prop, Q fs s → wpAny M A (vs.mapM firstOfTuple') Q E s
  | _, _, .nil, _ => ⟨[], rfl, fun Q h => by rw [List.mapM_nil]; exact wpAny_pure h⟩
  | _, _, .cons (a := v) (as := vs) (b := d) (bs := ds) ⟨as, r⟩ t, ht => by
    obtain ⟨fs, h1, h2⟩ := my_firsts t fun d hd => ht d (List.mem_cons_of_mem _ hd)
    obtain ⟨l, rfl⟩ := ht d (List.mem_cons_self ..)
    cases r with
    | @tuple a o xs n _ _ ho hc hd hr =>
      refine ⟨xs[0]? :: fs, ?_, fun Q h => ?_⟩
      · have hl := ReadsAll.length _ _ _ hr
        rw [Array.length_toList] at hl
        have hq : (xs[0]?).isSome = !isE (PyData.tuple l) := by
          cases l with
          | nil =>
            have : xs[0]? = none := Array.getElem?_eq_none (by rw [hl]; simp)
            rw [this]
            rfl
          | cons x l =>
            have hlt : 0 < xs.size := by rw [hl]; simp
            rw [Array.getElem?_eq_getElem hlt]
            rfl
        rw [List.map_cons, List.map_cons, h1, hq]
      · rw [List.mapM_cons]
        refine wpAny_bind ?_
        rw [kas_first_eq]
        refine wpAny_bind (Looks.here (show Looks M s.heap (typeOf (.ref a)) o.cls from (Looks.ld ho).andThen .now) ?_)
        rw [hc, if_neg (by first | decide | simp)]
        refine wpAny_bind (listItems_at ho hd (wpAny_pure ?_))
        exact wpAny_bind (h2 (fun bs s' => wpAny M A (pure (xs[0]? :: bs)) Q E s') (wpAny_pure h))
/-- tuples that read as alike data can be sorted, also where one is empty -/
theorem SortsAt.tup {prog : Program} {w : World} {A : PySem.Around} {s : Shared} {vs : List Value} {ds : List PyData} (e : EachIs (fun v d => ∃ as, Reads s.heap v d as) vs ds) (hal : AllAlike ds) (hk : ∀ d ∈ ds, ∃ l, d = .tuple l) (hu : ∀ d, d ∈ ds → A.units + d.depth < cLine) :
    SortsAt prog w A s (dataKind s.heap ds) vs := by
  by_cases hne : ∀ d ∈ ds, d ≠ .tuple []
  · refine SortsAt.data e hal (.inl fun d hd => ?_) hu
    obtain ⟨l, rfl⟩ := hk d hd
    cases l with
    | nil => exact absurd rfl (hne _ hd)
    | cons x r => exact ⟨x, r, rfl⟩
  have room : ∀ {d d' : PyData}, d ∈ ds → A.units + min d.depth d'.depth < cLine := fun {d d'} hd => Nat.lt_of_le_of_lt (Nat.add_le_add_left (Nat.min_le_left _ _) _) (hu d hd)
  refine ⟨fun v hv => ?_, ?_⟩
  · obtain ⟨d, hd, as, r⟩ := e.left v hv
    exact ⟨_, dataKind_some hal hd r⟩
  -- both kinds ask the tuples' own order
  have gen : PyProof.Rows.H.LtAt prog w A s (dataKind s.heap ds) general' := fun E x y a b Q ha hb hq => by
    obtain ⟨d, as, hd, ra, rfl⟩ := dataKind_inv ha
    obtain ⟨d', as', hd', rb, rfl⟩ := dataKind_inv hb
    rw [keyLt_general]
    obtain ⟨l, rfl⟩ := hk d hd
    exact oneLt_alike (fun h => absurd h Bool.false_ne_true) ra rb (hal _ hd _ hd') (by simp) (room hd) hq
  have one : PyProof.Rows.H.LtAt prog w A s (dataKind s.heap ds) oneType' := fun E x y a b Q ha hb hq => by
    obtain ⟨d, as, hd, ra, rfl⟩ := dataKind_inv ha
    obtain ⟨d', as', hd', rb, rfl⟩ := dataKind_inv hb
    rw [keyLt'_oneType]
    obtain ⟨l, rfl⟩ := hk d hd
    obtain ⟨l', rfl⟩ := hk d' hd'
    exact oneLt_tuple ra rb (hal _ hd _ hd') (room hd) hq
  have notAll : ∀ fs : List (Option Value), fs.map (·.isSome) = ds.map (fun d => !isE d) → (fs.toArray.all fun x => x.isSome) = false := fun fs hf => by
    rw [List.all_toArray]
    have h1 : fs.all (fun x => x.isSome) = (fs.map (·.isSome)).all id := by rw [List.all_map]; rfl
    rw [h1, hf, List.all_map]
    cases hc : ds.all (id ∘ fun d => !isE d) with
    | false => rfl
    | true =>
      refine absurd (fun d hd he => ?_) hne
      have h2 : (!isE d) = true := List.all_eq_true.mp hc d hd
      rw [(isE_iff d).mpr he] at h2
      cases h2
  cases ds with
  | nil => exact absurd (fun d hd => absurd hd (by simp)) hne
  | cons d₀ ds₀ =>
    by_cases h0 : d₀ = .tuple []
    · refine ⟨oneType', one, fun h2 E Q hq => ?_⟩
      obtain ⟨fs, hf, hm⟩ := my_firsts (M := model prog w) (A := A) (E := E) e hk
      rw [kat_kind_eq, List.mapM_toArray, map_eq_pure_bind]
      refine wpAny_bind (wpAny_bind (hm _ (wpAny_pure ?_)))
      rw [if_neg (by rw [notAll fs hf]; exact Bool.false_ne_true)]
      have hf0 : (fs.toArray[0]?.bind id).isSome = false := by
        cases fs with
        | nil => simp at hf
        | cons f fs =>
          rw [List.map_cons, List.map_cons] at hf
          have := (List.cons.inj hf).1
          rw [h0] at this
          have this : f.isSome = false := this
          simpa using this
      rw [if_neg (by rw [hf0]; exact Bool.false_ne_true)]
      rw [oneTypeOnly'_eq, List.mapM_toArray, map_eq_pure_bind]
      have hT : ∀ v ∈ vs, Looks (model prog w) s.heap (typeOf v) (Value.type "tuple") := fun v hv => by
        obtain ⟨d, hd, as, r⟩ := e.left v hv
        obtain ⟨l, rfl⟩ := hk d hd
        exact looks_reads r
      refine wpAny_bind (wpAny_bind (wpAny_bind (kas_mapM (r := Value.type "tuple") _ (fun v hv Q' hq => (hT v hv).here hq) (wpAny_pure ?_))))
      obtain ⟨v₁, vr, rfl⟩ : ∃ v₁ vr, vs = v₁ :: vr := by
        cases e with
        | cons _ _ => exact ⟨_, _, rfl⟩
      have hall : ((List.map (fun _ => Value.type "tuple") (v₁ :: vr)).toArray.all fun x => x == Value.type "tuple") = true := by
        simp only [List.all_toArray, List.all_map, List.all_eq_true]
        intro _ _
        exact beq_self_eq_true _
      have hh : (List.map (fun _ => Value.type "tuple") (v₁ :: vr)).toArray[0]? = some (Value.type "tuple") := by simp
      rw [hh]
      simp only [hall, if_true]
      exact wpAny_pure (wpAny_pure hq)
    · refine ⟨general', gen, fun h2 E Q hq => ?_⟩
      obtain ⟨fs, hf, hm⟩ := my_firsts (M := model prog w) (A := A) (E := E) e hk
      rw [kat_kind_eq, List.mapM_toArray, map_eq_pure_bind]
      refine wpAny_bind (wpAny_bind (hm _ (wpAny_pure ?_)))
      rw [if_neg (by rw [notAll fs hf]; exact Bool.false_ne_true)]
      have hf0 : (fs.toArray[0]?.bind id).isSome = true := by
        cases fs with
        | nil => simp at hf
        | cons f fs =>
          rw [List.map_cons, List.map_cons] at hf
          have := (List.cons.inj hf).1
          have h3 : isE d₀ = false := by
            cases hq : isE d₀ with
            | false => rfl
            | true => exact absurd ((isE_iff d₀).mp hq) h0
          rw [h3] at this
          simpa using this
      rw [if_pos hf0]
      exact wpAny_pure hq
/-- xs.sort(), the items tuples that read as alike data -/
theorem list_sort_tup {prog : Program} {w : World} {A : PySem.Around} {E : Value → Shared → Prop} {s : Shared} {β : Type} {vs : List Value} {bs : List β} {enc : β → PyData} {R : Value → β → Prop} {a : Addr} {n : Nat} {Q : Value → Shared → Prop} (ho : s.heap.get? a = some (seqObj "list" vs.toArray n)) (e : EachIs R vs bs)
    (er : EachIs (fun v b => ∃ as, Reads s.heap v (enc b) as ∧ a ∉ as) vs bs) (hal : AllAlike (bs.map enc)) (hk : ∀ b ∈ bs, ∃ l, enc b = .tuple l) (hL : bs.length ≤ sizeLine)
    (hu : ∀ b, b ∈ bs → A.units + 1 + (enc b).depth < cLine) (h : ∀ out, out.length = bs.length → EachIs R out (bs.mergeSort (dataLe false enc)) → Q .none { s with heap := sortedHeap s.heap a vs (List.toArray out) }) :
    wpAny (model prog w) A (call (.builtin "list.sort") [.ref a]) Q E s := by
  have er' : EachIs (fun v b => ∃ as, Reads (sortingHeap s.heap a vs) v (enc b) as) vs bs := each_keepBut (h' := sortingHeap s.heap a vs) (fun _ _ hb q => sortingHeap_old hb q) (fun o q => by rw [ho] at q; rw [← Option.some.inj q]) hal er
  have hk' : ∀ d ∈ bs.map enc, ∃ l, d = .tuple l := fun d hd => by
    obtain ⟨b, hb, rfl⟩ := List.mem_map.mp hd
    exact hk b hb
  refine wpAny_call_entry slot_list_sort ⟨_, ho, rfl⟩ entry_list_sort (list_sort_vals (κ := dataKind (sortingHeap s.heap a vs) (bs.map enc)) ho (SortsAt.tup (s := { s with heap := sortingHeap s.heap a vs }) (each_map (R := fun v d => ∃ as, Reads (sortingHeap s.heap a vs) v d as) enc er') hal hk' (bound_map hu)) (by rw [e.length]; exact hL) ⟨.none, rfl, ?_⟩) (args_list_sort _)
  exact h _ (by rw [sortVals_length false rfl]; exact e.length) (sortVals_data false e er' hal)
end

section
open PySem.W PySem.Calls
/-! ### sorted(d.items(), reverse=True): which order is not told -/
section
variable {X : Cx}
def rSortRev (K : PySem.W.Frag) : List V → List V → Hp → VK → Prop := fun vs zs H Q => ∃ (p a : Addr) (dom : List (Int × Int)) (f : Int × Int → Int × Int), vs = [.ref p] ∧ zs = [.bl true] ∧ H p = some (L2.DX.itemsO p a) ∧ FD K H a dom f ∧ dom.length ≤ 200 ∧
  ∀ (H' : Hp) (l : Addr) (xs : List V) (ps : List (Int × Int)), Same H H' → ps.Perm dom → H' l = some (.lst xs) →
    All2 (fun x (p : Int × Int) => ∃ (t k : Addr) (v : V), x = V.ref t ∧ H' t = some (.tup [.ref k, v]) ∧ H' k = some (.tup [.int p.1, .int p.2]) ∧ PrAt K H' v (f p)) xs ps → Q (.ref l) H'
def dat4 (f : Int × Int → Int × Int) (p : Int × Int) : PyData := .tuple [dat2 p, dat2 (f p)]
theorem dat4_alike (f : Int × Int → Int × Int) (p q : Int × Int) : alike (dat4 f p) (dat4 f q) = true := rfl
theorem each_all {α β : Type} {R : α → β → Prop} : ∀ {l : List α} {m : List β}, l.length = m.length → (∀ (j : Nat) (x : α) (y : β), l[j]? = some x → m[j]? = some y → R x y) → EachIs R l m
  | [], [], _, _ => .nil
  | x :: l, y :: m, hl, h => .cons (h 0 x y rfl rfl) (each_all (by simpa using hl) fun j a b e1 e2 => h (j + 1) a b (by simpa using e1) (by simpa using e2))
  | [], _ :: _, hl, _ => by simp at hl
  | _ :: _, [], hl, _ => by simp at hl
theorem each_vals {β : Type} {R : V → β → Prop} : ∀ {out : List Value} {ps : List β}, EachIs (fun u p => ∃ b, u = Value.ref b ∧ R (.ref b) p) out ps → ∃ ys, Vals ys out ∧ All2 R ys ps
  | _, _, .nil => ⟨[], .nil, .nil⟩
  | _, _, .cons ⟨b, e, hb⟩ t => by
    obtain ⟨ys, h1, h2⟩ := each_vals t
    subst e
    exact ⟨.ref b :: ys, .cons rfl h1, .cons hb h2⟩
theorem cr_sortedItemsRev (hc : X.calm = true) (hu : X.A.units + 64 < cLine) : CallRK X (.builtin "sorted") [Str.ofString "reverse"] (rSortRev X.K) := by
  intro pins s σ H vs zs us ws Q I r rz h
  obtain ⟨p, a, dom, f, rfl, rfl, hp, hF, hfew, q⟩ := h
  obtain rfl := Vals.ref1 r
  obtain ⟨w1, rfl, e1⟩ := vals1 rz
  obtain rfl : w1 = Value.bool true := e1
  have view : s.heap.IsItemsView p a := (show ObjOk X.prog X.w H s.heap p (L2.DX.itemsO p a) from I.hok p _ hp).1
  obtain ⟨⟨kvs, ha, rk⟩, nd, sm⟩ := hF
  obtain ⟨z, hd, xs', rel, o, es, ep, ho, hx, hdat, hes, his, hn⟩ := dt_of I.hok ha
  have l1 : kvs.length = xs'.length := Paired.length rel
  have l2 : es.size = xs'.length := size_of_entries hes
  have l3 : kvs.length = dom.length := rk.length
  have hh : X.A.handled = none := I.ok.hd hc
  have hline : (100000 : Nat) ≤ sizeLine := by decide
  refine call_function_entry_kw PyProof.Rows.kind_sorted PyProof.Rows.plain_sorted PyProof.Rows.entry_sorted (PyProof.Rows.args_sorted_rev _ _) ?_
  unfold Builtin.«sorted»
  refine wpAny_bind (m := checkCount "sorted" 1 1 _) (wpAny_pure ?_)
  refine wpAny_bind (DT.collectI (A := X.A.in1) (es := es) (ep := ep) hh view ⟨o, ho, hx, hdat⟩ (by omega) fun h' tk as hk hlt hl hG => ?_)
  have lak : as.length = dom.length := by omega
  have nda : as.Nodup := List.Pairwise.imp (fun h => Nat.ne_of_lt h) hG.rise
  have I1 : Inv X pins σ H { s with heap := h', toks := tk } := I.kept (t' := tk) hk
  -- the pairs that were made
  have pr0 : ∀ (j : Nat) (b : Addr), as[j]? = some b → ∃ (e : Int × Int) (kq : Addr) (v : V) (u : Value), dom[j]? = some e ∧ H kq = some (.tup [.int e.1, .int e.2]) ∧ PrAt X.K H v (f e) ∧ RelV v u ∧ h'.get? b = some { cls := .type "tuple", data := .seq #[Value.ref kq, u] } := by
    intro j b hj
    obtain ⟨en, he, hg⟩ := hG.pairs j b hj
    have hjl : j < kvs.length := by
      have := (List.getElem?_eq_some_iff.mp hj).1
      omega
    obtain ⟨y, hy, r1, r2, r3⟩ := paired_get rel (List.getElem?_eq_getElem hjl)
    have qe := PySem.entry_at hes j
    rw [hy] at qe
    have een : entryOfKey (tupleKind (mixKind X.prog X.w)) y = en := Option.some.inj (qe.symm.trans he)
    obtain ⟨e, hed, k1, k2⟩ := rk.at (List.getElem?_eq_getElem hjl)
    refine ⟨e, y.2.1, kvs[j].2, y.2.2, hed, ?_, k2, r3, ?_⟩
    · have k1 : kvs[j].1 = pk e := k1
      rw [k1] at r2
      exact r2
    · rw [hg, ← een]
      rfl
  obtain ⟨H2, I2, g, qt⟩ := L2.DX.takeT (P := fun b vs => ∃ (j : Nat) (e : Int × Int) (kq : Addr) (v : V), as[j]? = some b ∧ dom[j]? = some e ∧ vs = [.ref kq, v] ∧ H kq = some (.tup [.int e.1, .int e.2]) ∧ PrAt X.K H v (f e)) I as _ I1 nda fun b hb => by
    obtain ⟨j, hj⟩ := List.mem_iff_getElem?.mp hb
    obtain ⟨e, kq, v, u, he, hkq, hv, ru, hg⟩ := pr0 j b hj
    have hbl : s.heap.objs.size ≤ b := Nat.le_of_lt (hG.above b hb)
    exact ⟨hbl, I.hok.fresh hbl, [.ref kq, v], ⟨j, e, kq, v, hj, he, rfl, hkq, hv⟩, fun H3 => ⟨(by rw [sizeLine_eq]; show 2 ≤ 16777216; omega), [Value.ref kq, u], .cons rfl (.cons ru .nil), ⟨_, hg, rfl, 0, rfl⟩⟩⟩
  have at2 : ∀ (j : Nat) (b : Addr) (e : Int × Int), as[j]? = some b → dom[j]? = some e → ∃ (kq : Addr) (v : V), H2 b = some (.tup [.ref kq, v]) ∧ H2 kq = some (.tup [.int e.1, .int e.2]) ∧ PrAt X.K H2 v (f e) := by
    intro j b e hj he
    obtain ⟨vs, ⟨i, e', kq, v, i1, i2, ev, hkq, hv⟩, hH⟩ := qt b (List.mem_of_getElem? hj)
    have eij : j = i := (List.getElem?_inj (List.getElem?_eq_some_iff.mp hj).1 nda).mp (hj.trans i1.symm)
    subst eij
    have ee : e' = e := Option.some.inj (i2.symm.trans he)
    subst ee
    rw [ev] at hH
    obtain ⟨t, e1, e2⟩ := hv
    exact ⟨kq, v, hH, g _ _ hkq, t, e1, g _ _ e2⟩
  have hE : EachIs (fun u e => ∃ b, u = Value.ref b ∧ ∃ (t k : Addr) (v : V), V.ref b = V.ref t ∧ H2 t = some (.tup [.ref k, v]) ∧ H2 k = some (.tup [.int e.1, .int e.2]) ∧ PrAt X.K H2 v (f e)) (as.map Value.ref) dom := each_all (by rw [List.length_map]; exact lak) fun j u e e1 e2 => by
    rw [List.getElem?_map] at e1
    cases hj : as[j]? with
    | none => rw [hj] at e1; cases e1
    | some b =>
      rw [hj] at e1
      obtain rfl := Option.some.inj e1
      obtain ⟨kq, v, h1, h2, h3⟩ := at2 j b e hj e2
      exact ⟨b, rfl, b, kq, v, rfl, h1, h2, h3⟩
  refine wpAny_bind (wpAny_newList ?_ (by rw [List.length_map]; omega))
  have hoL : (h'.push (seqObj "list" (as.map Value.ref).toArray 0)).get? h'.objs.size = some (seqObj "list" (as.map Value.ref).toArray 0) := Heap.get?_push_size _ rfl
  show wpAny _ _ _ _ _ { s with heap := h'.push (seqObj "list" (as.map Value.ref).toArray 0), toks := tk }
  have rd2 : ∀ {h2 : Heap} {t : Addr} {e : Int × Int}, (∀ b o, h'.get? b = some o → h2.get? b = some o) → H2 t = some (.tup [.int e.1, .int e.2]) → Reads h2 (.ref t) (dat2 e) [] := fun {h2 t e} hk2 ht => by
    obtain ⟨_, its, rv, ot, hot, hct, nt, hdt⟩ := (show ObjOk X.prog X.w H2 h' t (.tup [.int e.1, .int e.2]) from I2.hok t _ ht)
    cases rv with
    | cons r1 r2 =>
      cases r2 with
      | cons r2 r3 =>
        cases r3
        obtain ⟨t1, rfl⟩ := r1
        obtain ⟨t2, rfl⟩ := r2
        exact Reads.tuple (hk2 _ _ hot) hct hdt (.cons (as := []) (.int _ _) (.cons (as := []) (.int _ _) .nil))
  have hR : EachIs (fun v e => ∃ bs, Reads (h'.push (seqObj "list" (as.map Value.ref).toArray 0)) v (dat4 f e) bs ∧ h'.objs.size ∉ bs) (as.map Value.ref) dom := hE.mono fun u e ⟨b, eu, t, k, v, ebt, h1, h2, t3, ev, h3⟩ => by
    subst eu
    cases ebt
    have hk2 : ∀ c o, h'.get? c = some o → (h'.push (seqObj "list" (as.map Value.ref).toArray 0)).get? c = some o := fun c o e => Heap.get?_push_of_some _ e
    refine ⟨[], ?_, by simp⟩
    obtain ⟨_, its, rv, ot, hot, hct, nt, hdt⟩ := (show ObjOk X.prog X.w H2 h' b (.tup [.ref k, v]) from I2.hok b _ h1)
    cases rv with
    | cons r1 r2 =>
      cases r2 with
      | cons r2 r3 =>
        cases r3
        cases r1
        subst ev
        cases r2
        exact Reads.tuple (hk2 _ _ hot) hct hdt (.cons (as := []) (rd2 hk2 h2) (.cons (as := []) (rd2 (e := f e) hk2 h3) .nil))
  refine wpAny_bind (wpAny_holding (wpAny_call_entry_kw PyProof.Rows.slot_list_sort ⟨_, hoL, rfl⟩ PyProof.Rows.entry_list_sort ?_ (PyProof.Rows.args_list_sort_rev _ _)))
  have er' : EachIs (fun v b => ∃ cs, Reads (sortingHeap (h'.push (seqObj "list" (as.map Value.ref).toArray 0)) h'.objs.size (as.map Value.ref)) v (dat4 f b) cs) (as.map Value.ref) dom := each_keepBut (h' := sortingHeap (h'.push (seqObj "list" (as.map Value.ref).toArray 0)) h'.objs.size (as.map Value.ref)) (fun _ _ hb q => sortingHeap_old hb q) (fun o q => by rw [hoL] at q; rw [← Option.some.inj q]) (fun x hx y hy => by
    obtain ⟨b1, _, rfl⟩ := List.mem_map.mp hx
    obtain ⟨b2, _, rfl⟩ := List.mem_map.mp hy
    exact dat4_alike f b1 b2) hR
  have hal : AllAlike (dom.map (dat4 f)) := fun x hx y hy => by
    obtain ⟨b1, _, rfl⟩ := List.mem_map.mp hx
    obtain ⟨b2, _, rfl⟩ := List.mem_map.mp hy
    exact dat4_alike f b1 b2
  refine list_sort_rev_vals (κ := dataKind (sortingHeap (h'.push (seqObj "list" (as.map Value.ref).toArray 0)) h'.objs.size (as.map Value.ref)) (dom.map (dat4 f))) hoL (SortsAt.tup (each_map (R := fun v d => ∃ cs, Reads _ v d cs) (dat4 f) er') hal (fun d hd => by
    obtain ⟨b1, _, rfl⟩ := List.mem_map.mp hd
    exact ⟨_, rfl⟩) (fun d hd => by
    obtain ⟨b1, _, rfl⟩ := List.mem_map.mp hd
    have : (dat4 f b1).depth = 2 := rfl
    rw [this]
    show X.A.units + 1 + 1 + 2 < cLine
    omega)) (by rw [List.length_map]; omega) ⟨_, rfl, ?_⟩
  have hout := sortVals_data true hE er' hal
  have hol : (sortVals (dataKind (sortingHeap (h'.push (seqObj "list" (as.map Value.ref).toArray 0)) h'.objs.size (as.map Value.ref)) (dom.map (dat4 f))) true (as.map Value.ref) (as.map Value.ref)).length = dom.length := by
    rw [sortVals_length true rfl, List.length_map]
    exact lak
  generalize sortVals (dataKind (sortingHeap (h'.push (seqObj "list" (as.map Value.ref).toArray 0)) h'.objs.size (as.map Value.ref)) (dom.map (dat4 f))) true (as.map Value.ref) (as.map Value.ref) = out at *
  obtain ⟨ys, hys1, hys2⟩ := each_vals (R := fun x (e : Int × Int) => ∃ (t k : Addr) (v : V), x = V.ref t ∧ H2 t = some (.tup [.ref k, v]) ∧ H2 k = some (.tup [.int e.1, .int e.2]) ∧ PrAt X.K H2 v (f e)) hout
  obtain ⟨e', he'⟩ := PyProof.Rows.sortedHeap_at (vs := as.map Value.ref) (out := out.toArray) hoL
  have hlen : ys.length ≤ sizeLine := by
    rw [hys1.length, hol]
    omega
  have hn0 : H2 h'.objs.size = none := I2.hok.fresh (Nat.le_refl _)
  have gL : ∀ (b : Addr) (o : HO), H2 b = some o → (upd H2 h'.objs.size (.lst ys)) b = some o := fun b o e => by
    rw [upd_ne (ne_of_none e hn0)]
    exact e
  refine wpAny_pure ⟨_, rfl, .ref h'.objs.size, upd H2 h'.objs.size (.lst ys), I2.laid (t' := tk) (fun b u e => ?_) (Nat.le_refl _)
    (show ObjOk X.prog X.w _ _ _ (.lst ys) from ⟨hlen, out, e', hys1, he'⟩), rfl, q _ h'.objs.size ys _ (fun b o e => gL _ _ (g _ _ e)) (List.mergeSort_perm _ _) upd_same (All2.mono hys2 fun x e ⟨t, k, v, h1, h2, h3, t3, h4, h5⟩ => ⟨t, k, v, h1, gL _ _ h2, gL _ _ h3, t3, h4, gL _ _ h5⟩)⟩
  have hb : b < h'.objs.size := Heap.lt_size e
  rw [PyProof.Rows.sortedHeap_old (Nat.ne_of_lt hb) (by rw [size_push']; exact Nat.lt_succ_of_lt hb)]
  exact Heap.get?_push_of_some _ e
end

/-! ### dict(xs) of a list of pairs (key, value) -/
section
variable {X : Cx} {P : Program} {w : World} {K : PySem.W.Frag}
abbrev KvAt (K : PySem.W.Frag) (H : Hp) (f : Int × Int → Int × Int) (x : V) (p : Int × Int) : Prop := ∃ (t k : Addr) (v : V), x = V.ref t ∧ H t = some (.tup [.ref k, v]) ∧ H k = some (.tup [.int p.1, .int p.2]) ∧ PrAt K H v (f p)
theorem dps_of {H : Hp} {h : Heap} {f : Int × Int → Int × Int} (ok : HOk P w H h) : ∀ {xs : List V} {ps : List (Int × Int)} {its : List Value}, All2 (KvAt K H f) xs ps → Vals xs its → ∃ (ts : List Addr) (kvs : List (List Key × V)) (ms : List (List Key × Addr × Value)),
    its = ts.map Value.ref ∧ ts.length = ms.length ∧ KT H kvs ms ∧ Ents K H kvs ps f ∧ (∀ (j : Nat) (t : Addr) (m : List Key × Addr × Value), ts[j]? = some t → ms[j]? = some m → h.IsTuple t #[.ref m.2.1, m.2.2])
  | _, _, _, .nil, .nil => ⟨[], [], [], rfl, rfl, .nil, .nil, fun j t m e => nomatch e⟩
  | _, _, _, .cons ⟨t, k, v, e, ht, hk, hv⟩ r, .cons rx rv => by
    obtain ⟨ts, kvs, ms, e1, e2, e3, e4, e5⟩ := dps_of ok r rv
    subst e
    cases rx
    obtain ⟨_, its2, rv2, ot, hot, hct, nt, hdt⟩ := (show ObjOk P w H h t (.tup [.ref k, v]) from ok t _ ht)
    cases rv2 with
    | cons r1 r2 =>
      cases r2 with
      | @cons _ u _ _ r2 r3 =>
        cases r3
        cases r1
        refine ⟨t :: ts, (pk _, v) :: kvs, (pk _, k, u) :: ms, by rw [e1]; rfl, by rw [List.length_cons, List.length_cons, e2], .cons ⟨rfl, hk, r2⟩ e3, .cons ⟨rfl, hv⟩ e4, fun j t' m h1 h2 => ?_⟩
        cases j with
        | zero =>
          cases h1
          cases h2
          exact ⟨ot, hot, hct, nt, hdt⟩
        | succ j => exact e5 j t' m h1 h2
theorem call_dictPs (hc : X.calm = true) (hu : X.A.units + 64 < cLine) : CallR X (.type "dict") (fun vs H Q => ∃ (a : Addr) (xs : List V) (ps : List (Int × Int)) (f : Int × Int → Int × Int), vs = [.ref a] ∧ H a = some (.lst xs) ∧ All2 (KvAt X.K H f) xs ps ∧ ps.Nodup ∧ (∀ p ∈ ps, smallP p) ∧ ps.length ≤ 200 ∧
    ∀ H' p, Same H H' → H p = none → FD X.K H' p ps f → Q (.ref p) H') := by
  intro pins s σ H vs us Q I r q
  obtain ⟨a, xs, ps, f, ex, ha, hA, hn, hs, hfew, q⟩ := q
  subst ex
  obtain ⟨u, eu, rx⟩ := vals1 r
  subst eu
  cases rx
  obtain ⟨hz, its, na, rv, hat⟩ := (show ObjOk X.prog X.w H s.heap a (.lst xs) from I.hok a _ ha)
  obtain ⟨ts, kvs, ms, e1, e2, rel, en, hT⟩ := dps_of I.hok hA rv
  have lk : kvs.length = ms.length := Paired.length rel
  have lp : kvs.length = ps.length := en.length
  have keys : ms.map (·.1) = ps.map pk := (KT_keys rel).trans en.keys
  have mnd : (ms.map (·.1)).Nodup := by
    rw [keys]
    exact List.pairwise_map.mpr (hn.imp fun ne e => ne (pk_inj e))
  have tups := KT_tups I.hok rel
  have hline : (100000 : Nat) ≤ sizeLine := by decide
  have hm : (s.heap.objs.size == sysModules) = false := beq_eq_false_iff_ne.mpr (Nat.ne_of_gt I.big)
  have lms : (ms.map fun m => (Value.ref m.2.1, m.2.2)).length = ms.length := List.length_map _
  refine call_dict_pairsH (knd := tupleKind (mixKind X.prog X.w)) (ps := ms) (PairArg.list a its.toArray (fun j => ts.getD j 0) (ms.map fun m => (Value.ref m.2.1, m.2.2))) (I.ok.hd hc) ?_ ⟨⟨_, na, hat, rfl, rfl, rfl⟩, ?_, fun j k v e => ?_⟩ ⟨lms.symm, fun i key v e => ?_⟩ (fun h' hk x hx => ?_) (by omega) fun h' tk hd' hk => ?_
  · show X.A.in1.in1.units < cLine
    rw [units_in1, units_in1]
    omega
  · rw [lms, List.size_toArray, e1, List.length_map]
    exact e2
  · rw [List.getElem?_map] at e
    cases hj : ms[j]? with
    | none => rw [hj] at e; cases e
    | some m =>
      rw [hj] at e
      cases e
      have hjl := (List.getElem?_eq_some_iff.mp hj).1
      have htj : ts[j]? = some ts[j] := List.getElem?_eq_getElem (by omega)
      have ed : ts.getD j 0 = ts[j] := by
        rw [List.getD_eq_getElem?_getD, htj]
        rfl
      refine ⟨?_, .inl ?_⟩
      · rw [e1, List.getElem?_toArray, List.getElem?_map, htj]
        show some (Value.ref ts[j]) = some (Value.ref (ts.getD j 0))
        rw [ed]
      · show s.heap.IsTuple (ts.getD j 0) #[Value.ref m.2.1, m.2.2]
        rw [ed]
        exact hT j _ m htj hj
  · have e : (ms.map fun m => (Value.ref m.2.1, m.2.2))[i]? = some (key, v) := e
    rw [List.getElem?_map] at e
    cases hj : ms[i]? with
    | none => rw [hj] at e; cases e
    | some m =>
      rw [hj] at e
      cases e
      exact ⟨m.1, m.2.1, rfl, rfl⟩
  · obtain ⟨o, items, n, h1, h2, h3, h4⟩ := key_of I.hok (tups x hx)
    exact ⟨o, items, n, hk _ _ (Nat.ne_of_lt (Heap.lt_size h1)) (by simp) h1, h2, h3, h4⟩
  · rw [storedAllH_nil_of_nodup ms mnd] at hd'
    obtain ⟨o, es, ep, h1, h2, h3, h4, _, h5⟩ := hd'
    have hf := I.hok.fresh (Nat.le_refl s.heap.objs.size)
    have s1 : Same H (upd H s.heap.objs.size (.dT kvs)) := same_new hf
    refine ⟨.ref s.heap.objs.size, upd H s.heap.objs.size (.dT kvs), I.laid (t' := tk) (fun b u e => hk b u (by simp) e) (Nat.le_refl _) ?_, rfl, q _ _ s1 hf ⟨⟨kvs, upd_same, Ents.tups (TupS.of s1) en⟩, hn, hs⟩⟩
    refine ⟨by omega, hm, ms, rel.keeps fun c ys hc => ?_, o, es, ep, h1, h2, h3, h4, h5⟩
    rw [upd_ne (ne_of_none hc hf)]
    exact hc
end

end
theorem five_at {v0 v1 v2 v3 v4 i : Int} (h0 : 0 ≤ i) (h5 : i < 5) : ∃ v : Int, atI [V.int v0, V.int v1, V.int v2, V.int v3, V.int v4] i = some (.int v) := by
  obtain ⟨v, _, e⟩ := int_atN (rs := [v0, v1, v2, v3, v4]) (k := i.toNat) (by show i.toNat < 5; omega)
  refine ⟨v, ?_⟩
  rw [show i = ((i.toNat : Nat) : Int) by omega]
  exact e
def sp_wild : Sp := fun vs H Q _ => ∃ n one : Int, vs = [.int n, .int one] ∧ 3 ≤ n ∧ n ≤ 12 ∧ ∀ H' v, Same H H' → Q (.int v) H'
theorem ok__law_wild (T : Env K mg) : FnOk P w K mg base CX0 1 T.a__law_wild T.fd__law_wild ["_law_n", "_law_one"] sp_wild := by
  refine T.F__law_wild.ok sc__law_wild (fun vs H Q E h => ?_) (fun cdv A outer s H vs Q E hr h => ?_)
  · obtain ⟨n, one, rfl, _⟩ := h
    rfl
  · obtain ⟨n, one, rfl, h3, h12, q⟩ := h
    refine ⟨_, (pss_cons (ps_if (pt_cmpR op_eq (pe_op op_mod (pe_op op_fdiv (pv 1) pe_int) pe_int) pe_int (nomark _))
 (pss_one (ps_ret (pe_ix ix_list (pe_lst (pa_cons (pe_un un_neg (pv 0)) (pa_cons (pe_un un_neg pe_int) (pa_cons (pe_op op_add (pv 0) pe_int) (pa_cons (pe_op op_pow pe_int pe_int) (pa_cons (pe_un un_neg (pe_op op_pow pe_int pe_int)) pa_nil)))))) (pe_op op_mod (pv 1) pe_int) (fun _ _ => rfl))))
 pss_nil)
 (pss_one (ps_ret (pe_op op_sub (pe_op op_mod (pv 1) (pe_op op_add (pv 0) pe_int)) pe_int)))), ?_⟩
    refine ⟨_, rfl, _, _, rfl, rfl, ⟨by decide, by decide⟩, _, _, rfl, rfl, (by show (0 : Int) < _; decide), rfl, _, rfl, ite2 (fun _ => ?_) (fun _ => ?_)⟩
    · have g0 := Int.emod_nonneg one (show (5 : Int) ≠ 0 by decide)
      have g1 := Int.emod_lt_of_pos one (show (0 : Int) < 5 by decide)
      obtain ⟨v, ev⟩ := five_at (v0 := -n) (v1 := -2) (v2 := n + 1) (v3 := 10 ^ 20) (v4 := -10 ^ 20) g0 g1
      refine ⟨_, rfl, _, rfl, _, rfl, _, rfl, _, _, rfl, rfl, _, _, rfl, rfl, ⟨by decide, by decide, by decide⟩, _, _, rfl, rfl, ⟨by decide, by decide, by decide⟩, _, rfl, small200 (by show 5 ≤ 200; decide), fun d hd => ?_⟩
      have s7 := same_new (o := .lst [V.int (-n), V.int (-2), V.int (n + 1), V.int (10 ^ 20), V.int (-10 ^ 20)]) hd
      exact ⟨_, rfl, _, _, rfl, rfl, (by show (0 : Int) < _; decide), d, _, _, V.int v, rfl, rfl, .inl (.inl upd_same), ev, q _ _ s7⟩
    · exact ⟨_, rfl, _, rfl, _, _, rfl, rfl, _, _, rfl, rfl, (by show (0 : Int) < _; omega), _, _, rfl, rfl, q _ _ (Same.refl _)⟩

def sp_law (K : PySem.W.Frag) : Sp := fun vs H Q _ => ∃ (a : Addr) (ns : List Int), vs = [.ref a] ∧ SqL K H a (ns.map V.int) ∧ ns.length ≤ 63 ∧ ∀ H', Q (.bl true) H'
theorem cut_ok (rs : List Int) (k : Nat) : cutV (rs.map V.int) (some (k : Int)) none = (rs.drop k).map V.int := by rw [cut_drop, List.map_drop]
theorem rowOk_drop {rs : List Int} (h : rowOk rs) (k : Nat) : rowOk (rs.drop k) := fun v hv => h v (List.mem_of_mem_drop hv)
theorem pair_at {H : Hp} {xs : List V} {l : List (Int × Int)} {k : Nat} (h : PrL K H xs l) (hk : k < l.length) : ∃ (t : Addr) (p : Int × Int), p ∈ l ∧ atI xs (k : Int) = some (.ref t) ∧ SqT K H t [.int p.1, .int p.2] := by
  obtain ⟨x, ex, t, rfl, ht⟩ := h.at' (List.getElem?_eq_getElem hk)
  exact ⟨t, l[k], List.getElem_mem hk, atI_nat ex, .inl (.inl ht)⟩
/-- what law holds behind the drawing -/
structure Drawn (K : PySem.W.Frag) (H : Hp) (n : Int) (c t : Addr) (cut : List (Int × Int)) : Prop where
  three : 3 ≤ n
  most : n ≤ 12
  isC : IsCut n cut
  srt : cut.Pairwise le2
  len : (cut.length : Int) = n - 3
  ex : ∃ xs, H c = some (.lst xs) ∧ PrL K H xs cut
  ty : ∃ ys, H t = some (.lst ys) ∧ PrL K H ys (tiesS n cut)
theorem Drawn.mono {H H' : Hp} {n : Int} {c t : Addr} {cut : List (Int × Int)} (s : Same H H') (h : Drawn K H n c t cut) : Drawn K H' n c t cut := by
  obtain ⟨xs, e1, e2⟩ := h.ex
  obtain ⟨ys, e3, e4⟩ := h.ty
  exact ⟨h.three, h.most, h.isC, h.srt, h.len, ⟨xs, s _ _ e1, e2.mono s⟩, ⟨ys, s _ _ e3, e4.mono s⟩⟩
theorem Drawn.few {H : Hp} {n : Int} {c t : Addr} {cut : List (Int × Int)} (h : Drawn K H n c t cut) : cut.length ≤ 9 := by have := h.len; have := h.most; omega
theorem isCut_perm {n : Int} {l m : List (Int × Int)} (h : IsCut n l) (p : m.Perm l) : IsCut n m := by
  obtain ⟨T, hT, hR⟩ := h.ex
  exact ⟨h.three, p.nodup_iff.mpr h.nd, T, hT, fun a b => (p.mem_iff).trans (hR a b)⟩

theorem old_of {n : Int} {l : List (Int × Int)} {p : Int × Int} {x y x2 y2 : Int} (hC : IsCut n l) (hs : l.Pairwise le2) (hm : p ∈ l) (hT : Turns n l p x y) (hT2 : Turns n (turnL n l p) (x, y) x2 y2) : (x2, y2) = p := by
  have hb := turn_back hC hs hm hT
  have h1 : (x2, y2) ∈ l := by rw [← hb]; exact (hT2.mem _).mpr (.inr rfl)
  exact Decidable.by_contra fun ne => hT2.new ((hT.mem _).mpr (.inl ⟨h1, ne⟩))
theorem turn_ties {n : Int} {l : List (Int × Int)} {p : Int × Int} {x y : Int} (hC : IsCut n l) (hm : p ∈ l) (hT : Turns n l p x y) (q : Int × Int) : q ∈ tiesS n (turnL n l p) ↔ (q ∈ tiesS n l ∧ q ≠ p) ∨ q = (x, y) := by
  unfold tiesS
  rw [sort2_mem, sort2_mem, List.mem_append, List.mem_append, hT.mem]
  constructor
  · rintro (h | h | h)
    · exact .inl ⟨.inl h, fun e => side_rope hC h (e ▸ hm)⟩
    · exact .inl ⟨.inr h.1, h.2⟩
    · exact .inr h
  · rintro (⟨h | h, e⟩ | h)
    · exact .inl h
    · exact .inr (.inl ⟨h, e⟩)
    · exact .inr (.inr h)
theorem mem_laid {dom : List (Int × Int)} {p q r : Int × Int} : q ∈ (dom.filter fun q => decide (q ≠ p)) ++ [r] ↔ (q ∈ dom ∧ q ≠ p) ∨ q = r := by
  rw [List.mem_append, List.mem_filter, decide_eq_true_eq, List.mem_singleton]
/-- the lengths behind a turning are lengths -/
theorem laidF_frac {n : Int} {l : List (Int × Int)} {f : Int × Int → Int × Int} {p : Int × Int} {x y : Int} (hm : p ∈ l) (hT : Turns n l p x y) (hfr : ∀ q, q ∈ tiesS n l → Frac 10 (f q)) {q : Int × Int} (hq : (q ∈ tiesS n l ∧ q ≠ p) ∨ q = (x, y)) : Frac 51 (laidF f p x y q) := by
  have hx := bes_ties (t := tiesS n l) (n := n) (a := p.1) (b := p.2) (x := x) (by rw [hT.bes]; simp)
  have hy := bes_ties (t := tiesS n l) (n := n) (a := p.1) (b := p.2) (x := y) (by rw [hT.bes]; simp)
  rw [pr_comm p.1 x, pr_comm p.2 x] at hx
  rw [pr_comm p.1 y, pr_comm p.2 y] at hy
  unfold laidF setF
  split
  · exact acrV_frac (b := 10) (hfr _ hx.1) (hfr _ hy.2) (hfr _ hx.2) (hfr _ hy.1) (hfr _ (rope_tie hm))
  · next ne => exact (hfr _ (hq.resolve_right ne).1).more (by decide)
theorem laidF_off {f : Int × Int → Int × Int} {p q : Int × Int} {x y : Int} (h : q ≠ (x, y)) : laidF f p x y q = f q := if_neg h
theorem laidF_on {f : Int × Int → Int × Int} {p : Int × Int} {x y : Int} : laidF f p x y (x, y) = acrV f p (x, y) := if_pos rfl
theorem rateL_frac {n : Int} {l : List (Int × Int)} {f : Int × Int → Int × Int} (hC : IsCut n l) (hD : ∀ p, p ∈ tiesS n l → Frac 10 (f p)) {p : Int × Int} (hp : p ∈ l) : Frac 40 (rateL n l f p) := by
  obtain ⟨x, y, hT⟩ := turns hC hp
  rw [rateL_at hT]
  have hAr := round hT
  exact divV_frac (a := 20) (b := 20) (mulV_frac (a := 10) (b := 10) (hD _ hAr.lm) (hD _ hAr.hz)) (mulV_frac (a := 10) (b := 10) (hD _ (by have := hAr.hm; rw [pr_comm] at this; exact this)) (hD _ (by have := hAr.lz; rw [pr_comm] at this; exact this)))
theorem ok_law (T : Env K mg) : FnOk P w K mg base CX0 8 T.a_law T.fd_law ["_law_script"] (sp_law K) := by
  refine T.F_law.ok sc_law (fun vs H Q E h => ?_) (fun cdv A outer s H vs Q E hr h => ?_)
  · obtain ⟨a, ns, rfl, _⟩ := h
    rfl
  · obtain ⟨a, ns, rfl, hS, hl, q⟩ := h
    refine ⟨_, (pss_cons (ps_set (i := 1) sc_law.nd rfl (.inl rfl) (pe_call (ok__law_flow T) (hr.mono (by decide)) (by rfl) T.g__law_flow T.F__law_flow.kp T.b__law_flow .nil pass0 (pa_cons (pv 0) (pa_cons pe_int pa_nil))))
 (pss_cons (ps_set (i := 2) sc_law.nd rfl (.inl rfl) (pe_call (ok__law_many T) (hr.mono (by decide)) (by rfl) T.g__law_many T.F__law_many.kp T.b__law_many .nil pass0 (pa_cons (pv 1) pa_nil)))
 (pss_cons (ps_set (i := 3) sc_law.nd rfl (.inr rfl) (pe_call (ok__law_ropes T) (hr.mono (by decide)) (by rfl) T.g__law_ropes T.F__law_ropes.kp T.b__law_ropes .nil pass0 (pa_cons (pe_call (ok__law_ears T) (hr.mono (by decide)) (by rfl) T.g__law_ears T.F__law_ears.kp T.b__law_ears .nil pass0 (pa_cons (pv 2) (pa_cons (pe_slice sl_list (pv 1) (po_some pe_int) po_none) pa_nil))) pa_nil)))
 (pss_cons (ps_set (i := 4) sc_law.nd rfl (.inl rfl) (pe_call (ok__law_sized T) (hr.mono (by decide)) (by rfl) T.g__law_sized T.F__law_sized.kp T.b__law_sized .nil pass0 (pa_cons (pe_call (ok__law_ties T) (hr.mono (by decide)) (by rfl) T.g__law_ties T.F__law_ties.kp T.b__law_ties .nil pass0 (pa_cons (pv 2) (pa_cons (pv 3) pa_nil))) (pa_cons (pe_slice sl_list (pv 1) (po_some pe_int) po_none) pa_nil))))
 (pss_cons (ps_set (i := 5) sc_law.nd rfl (.inl rfl) (pe_call (ok__law_ratios T) (hr.mono (by decide)) (by rfl) T.g__law_ratios T.F__law_ratios.kp T.b__law_ratios .nil pass0 (pa_cons (pv 2) (pa_cons (pv 3) (pa_cons (pv 4) pa_nil)))))
 (pss_cons (ps_set (i := 6) sc_law.nd rfl (.inl rfl) (pe_cmpR op_eq (pe_op op_mod (pe_ix ix_list (pv 1) pe_int (fun _ _ => rfl)) pe_int) pe_int (nomark _)))
 (C8.pss_cut (ps_if (pt_val (pv 6))
 (pss_one (ps_for PassesOwn.never rfl (pi_range1 (by rfl) T.m_range (pa_cons (pe_callB call_len_seq (by rfl) T.m_len (by decide +kernel) (pa_cons (pv 3) pa_nil)) pa_nil)) (pg_name (i := 7) sc_law.nd rfl (.inl rfl))
 (pss_one (ps_dput (hu_of hr) (pv 5) (pe_ix ix_list (pv 3) (pv 7) (fun _ _ => rfl)) (pe_call (ok__law_size T) (hr.mono (by decide)) (by rfl) T.g__law_size T.F__law_size.kp T.b__law_size .nil pass0 (pa_cons (pe_ix ix_list (pv 1) (pe_op op_add pe_int (pv 7)) (fun _ _ => rfl)) pa_nil)) rfl))))
 pss_nil)
 (pss_cons (ps_set (i := 8) sc_law.nd rfl (.inl rfl) (pe_tup (pa_cons (pe_call (ok__law_wild T) (hr.mono (by decide)) (by rfl) T.g__law_wild T.F__law_wild.kp T.b__law_wild .nil pass0 (pa_cons (pv 2) (pa_cons (pe_ix ix_list (pv 1) pe_int (fun _ _ => rfl)) pa_nil))) (pa_cons (pe_op op_sub (pe_op op_mod (pe_ix ix_list (pv 1) pe_int (fun _ _ => rfl)) (pe_op op_add (pv 2) pe_int)) pe_int) pa_nil))))
 (C8.pss_cut (ps_if (PW.pt (pw_and (pt_cmpR op_ne (pe_op op_mod (pe_ix ix_list (pv 1) pe_int (fun _ _ => rfl)) pe_int) pe_int (nomark _)) (pw_and1 (pt_cmpR (op_neL2 (by have h_ := hr.units; exact h_)) (pv 3) (pe_lst pa_nil) (nomark _)))))
 (pss_one (ps_set (i := 8) sc_law.nd rfl (.inl rfl) (pe_ix ix_list (pv 3) (pe_op op_mod (pe_ix ix_list (pv 1) pe_int (fun _ _ => rfl)) (pe_callB call_len_seq (by rfl) T.m_len (by decide +kernel) (pa_cons (pv 3) pa_nil))) (fun _ _ => rfl))))
 pss_nil)
 (pss_cons (ps_set (i := 9) sc_law.nd rfl (.inl rfl) (pe_cmpR (op_in2 (by have h_ := Room.units2 hr; exact h_)) (pe_call (ok__law_pair T) (hr.mono (by decide)) (by rfl) T.g__law_pair T.F__law_pair.kp T.b__law_pair .nil pass0 (pa_cons (pe_ix ix_tup (pv 8) pe_int (fun _ _ => rfl)) (pa_cons (pe_ix ix_tup (pv 8) pe_int (fun _ _ => rfl)) pa_nil))) (pv 3) (by rfl)))
 (pss_cons (ps_set (i := 10) sc_law.nd rfl (.inl rfl) (pe_callTy (call_dictT (by exact hr.units)) (by rfl) T.m_dict (by decide +kernel) (pa_cons (pv 5) pa_nil)))
 (C8.pss_cut (ps_if (pt_cmpR op_eq (pe_op op_mod (pe_op op_fdiv (pe_ix ix_list (pv 1) pe_int (fun _ _ => rfl)) pe_int) pe_int) pe_int (nomark _))
 (pss_one (ps_set (i := 10) sc_law.nd rfl (.inl rfl) (pe_callTy (call_dictPs rfl (by exact hr.units)) (by rfl) T.m_dict (by decide +kernel) (pa_cons (pe_callBK (cr_sortedItemsRev rfl (by exact hr.units)) (by rfl) T.m_sorted (by decide +kernel) (pa_cons (pe_bm0 PySem.F.plainAttrs_dict PySem.F.slot_dict_items PySem.F.type_dict_items L2.DX.mt_itemsT (pv 5)) pa_nil) (pk_cons pe_bl pk_nil)) pa_nil))))
 pss_nil)
 (pss_cons (ps_set (i := 11) sc_law.nd rfl (.inl rfl) (pe_callTy call_list_of (by rfl) T.m_list (by decide +kernel) (pa_cons (pv 3) pa_nil)))
 (pss_cons (ps_try_as (i := 13) rfl rfl sc_law.nd rfl rfl ⟨rfl, by decide, .inl T.c_MeadError⟩ takes0 (fun W pn xe tk _ => (pss_one (ps_set (i := 12) sc_law.nd rfl (.inl rfl) (pe_callS (ok_turned_ratios T) (hr.mono (by decide)) (by rfl) T.g_turned_ratios T.F_turned_ratios.kp T.b_turned_ratios (fun σ => passAt tk σ) (pa_cons (pv 2) (pa_cons (pv 11) (pa_cons (pv 10) (pa_cons (pe_ix (r := rIxT K) ix_tup (pv 8) pe_int (fun _ _ => rfl)) (pa_cons (pe_ix (r := rIxT K) ix_tup (pv 8) pe_int (fun _ _ => rfl)) pa_nil))))))))) (fun a oe cls d pn hz hf => (pss_guard (P := cls = .ref T.C_NoRope ∧ d = none) (fun hP => (pss_one (ps_ret (pe_and (pe_not (pv 9)) (pe_one (pe_callB (call_isE T.e_NoRope (zc_of hz hP) hf) (by rfl) T.m_isinstance (by decide +kernel) (pa_cons (pv 13) (pa_cons (pe_glob (v := .ref T.C_NoRope) rfl T.c_NoRope rfl) pa_nil)))))))))))
 (pss_cons (ps_if (PW.pt (pw_or (pt_not (pt_val (pv 9))) (pw_or (pt_cmpR (op_neL2 (by have h_ := hr.units; exact h_)) (pv 11) (pv 3) (nomark _)) (pw_or1 (pt_not (pt_val (pe_call (ok__law_dict T) (hr.mono (by decide)) (by rfl) T.g__law_dict T.F__law_dict.kp T.b__law_dict .nil pass0 (pa_cons (pv 10) (pa_cons (pv 5) pa_nil)))))))))
 (pss_one (ps_ret pe_bl))
 pss_nil)
 (pss_cons (ps_set (i := 8) sc_law.nd rfl (.inl rfl) (pe_call (ok__law_pair T) (hr.mono (by decide)) (by rfl) T.g__law_pair T.F__law_pair.kp T.b__law_pair .nil pass0 (pa_cons (pe_ix ix_tup (pv 8) pe_int (fun _ _ => rfl)) (pa_cons (pe_ix ix_tup (pv 8) pe_int (fun _ _ => rfl)) pa_nil))))
 (pss_cons (ps_if (pt_not (pt_val (pe_call (ok__law_dict T) (hr.mono (by decide)) (by rfl) T.g__law_dict T.F__law_dict.kp T.b__law_dict .nil pass0 (pa_cons (pv 12) (pa_cons (pe_call (ok__law_due T) (hr.mono (by decide)) (by rfl) T.g__law_due T.F__law_due.kp T.b__law_due .nil pass0 (pa_cons (pv 2) (pa_cons (pv 3) (pa_cons (pv 5) (pa_cons (pv 8) pa_nil))))) pa_nil)))))
 (pss_one (ps_ret pe_bl))
 pss_nil)
 (pss_cons (ps_set (i := 14) sc_law.nd rfl (.inl rfl) (pe_call (ok__law_turned T) (hr.mono (by decide)) (by rfl) T.g__law_turned T.F__law_turned.kp T.b__law_turned .nil pass0 (pa_cons (pv 2) (pa_cons (pv 3) (pa_cons (pv 8) pa_nil)))))
 (pss_cons (ps_set (i := 15) sc_law.nd rfl (.inl rfl) (pe_ix ix_list (pe_lc (own := [("_law_one", 17)]) (by rfl) sc_law.nd (pi_list (pv 14)) (blkOk_by (own := [("_law_one", 17)]) (N := ["_law_script", "_law_row", "_law_n", "_law_cut", "_law_sized_here", "_law_rates", "_law_free", "_law_k", "_law_rope", "_law_good", "_law_handed", "_law_ropes_here", "_law_found", "e", "_law_late", "_law_fresh", "_law_behind", "_law_one"]) (sc := defScope s_law) (by decide +kernel)) (fun _ _ _ _ _ => (pg_name (i := 17) sc_law.nd rfl (.inl rfl))) (fun _ _ _ _ _ => (pts_one (pt_cmpR (r := rIn2 K true) (op_notIn2 (by have h_ := Room.units2 hr; exact h_)) (pv 17) (pv 3) (by rfl)))) (fun _ _ _ _ _ => (pv 17))) pe_int (fun _ _ => rfl)))
 (C8.pss_cut (ps_if (pt_not (pt_val (pv 6)))
 (pss_cons (ps_set (i := 16) sc_law.nd rfl (.inl rfl) (pe_call (ok_laid T) (hr.mono (by decide)) (by rfl) T.g_laid T.F_laid.kp T.b_laid .nil passL (pa_cons (pv 2) (pa_cons (pe_callTy call_list_of (by rfl) T.m_list (by decide +kernel) (pa_cons (pv 3) pa_nil)) (pa_cons (pe_callTy (call_dictT (by exact hr.units)) (by rfl) T.m_dict (by decide +kernel) (pa_cons (pv 4) pa_nil)) (pa_cons (pe_ix ix_tup (pv 8) pe_int (fun _ _ => rfl)) (pa_cons (pe_ix ix_tup (pv 8) pe_int (fun _ _ => rfl)) pa_nil)))))))
 (pss_one (ps_if (pt_not (pt_val (pe_call (ok__law_dict T) (hr.mono (by decide)) (by rfl) T.g__law_dict T.F__law_dict.kp T.b__law_dict .nil pass0 (pa_cons (pe_call (ok_ratios T) (hr.mono (by decide)) (by rfl) T.g_ratios T.F_ratios.kp T.b_ratios .nil pass0 (pa_cons (pv 2) (pa_cons (pe_callTy call_list_of (by rfl) T.m_list (by decide +kernel) (pa_cons (pv 14) pa_nil)) (pa_cons (pv 16) pa_nil)))) (pa_cons (pv 12) pa_nil)))))
 (pss_one (ps_ret pe_bl))
 pss_nil)))
 pss_nil)
 (pss_one (ps_ret (pe_call (ok__law_dict T) (hr.mono (by decide)) (by rfl) T.g__law_dict T.F__law_dict.kp T.b__law_dict .nil pass0 (pa_cons (pe_call (ok_turned_ratios T) (hr.mono (by decide)) (by rfl) T.g_turned_ratios T.F_turned_ratios.kp T.b_turned_ratios .nil passL (pa_cons (pv 2) (pa_cons (pe_callTy call_list_of (by rfl) T.m_list (by decide +kernel) (pa_cons (pv 14) pa_nil)) (pa_cons (pe_callTy (call_dictT (by exact hr.units)) (by rfl) T.m_dict (by decide +kernel) (pa_cons (pv 12) pa_nil)) (pa_cons (pe_ix ix_tup (pv 15) pe_int (fun _ _ => rfl)) (pa_cons (pe_ix ix_tup (pv 15) pe_int (fun _ _ => rfl)) pa_nil)))))) (pa_cons (pv 5) pa_nil))))))))))))))))))))))))), ?_⟩
    refine ⟨_, rfl, a, ns, 40, rfl, hS, hl, by decide, by decide, fun H1 p rs hs hp hlen hro hrow => ?_⟩
    have hlen : rs.length = 40 := hlen
    have hR : ∀ {H2}, Same H1 H2 → SqL K H2 p (rs.map V.int) := fun s => .inl (.inl (s _ _ hrow))
    obtain ⟨r2, m2, a2⟩ := int_at (rs := rs) (k := 2) (by omega)
    obtain ⟨r3, m3, a3⟩ := int_at (rs := rs) (k := 3) (by omega)
    obtain ⟨r4, m4, a4⟩ := int_at (rs := rs) (k := 4) (by omega)
    have b3 := hro r3 m3
    refine ⟨_, rfl, p, rs, rfl, hR (Same.refl _), by omega, fun n h3 h12 => ?_⟩
    refine ⟨_, rfl, _, rfl, 5, rfl, p, _, rfl, hR (Same.refl _), fun q1 hq1 => ?_⟩
    have s1 : Same H1 _ := same_new (o := .lst (cutV (rs.map V.int) (some 5) none)) hq1
    have e1 : (upd H1 q1 (.lst (cutV (rs.map V.int) (some 5) none))) q1 = some (.lst ((rs.drop 5).map V.int)) := by rw [upd_same, show (5 : Int) = ((5 : Nat) : Int) from rfl, cut_ok]
    generalize upd H1 q1 (.lst (cutV (rs.map V.int) (some 5) none)) = H2 at *
    refine ⟨n, q1, rs.drop 5, rfl, h3, h12, .inl (.inl e1), by rw [List.length_drop]; omega, rowOk_drop hro 5, fun H3 o xs es s2 no ho hE hel hC => ?_⟩
    refine ⟨o, xs, es, rfl, ho, hE, by omega, fun H4 c ys s3 nc hc hY => ?_⟩
    have hC2 := isCut_perm hC (sort2_perm _)
    have hcl : ((sort2 (es.map earR)).length : Int) = n - 3 := by rw [sort2_len, List.length_map]; exact hel
    have hcs := sort2_sorted (es.map earR)
    generalize sort2 (es.map earR) = cut at *
    refine ⟨_, rfl, _, rfl, n, c, ys, cut, rfl, h3, h12, hc, hY, by omega, fun H5 t zs s4 nt ht hZ => ?_⟩
    have s5 := ((s1.trans s2).trans s3).trans s4
    have D : Drawn K H5 n c t cut := ⟨h3, h12, hC2, hcs, hcl, ⟨ys, s4 _ _ hc, hY.mono s4⟩, ⟨zs, ht, hZ⟩⟩
    clear s1 e1 s2 no ho hE hel hC s3 nc hc hY hC2 hcl hcs nt ht hZ
    obtain ⟨zs, ht, hZ⟩ := D.ty
    have htc := ties_count D.isC
    have hfew := D.few
    have hcl := D.len
    refine ⟨_, rfl, 16, rfl, p, _, rfl, hR s5, fun q2 hq2 => ?_⟩
    have s6 := same_new (o := .lst (cutV (rs.map V.int) (some 16) none)) hq2
    have e2 : (upd H5 q2 (.lst (cutV (rs.map V.int) (some 16) none))) q2 = some (.lst ((rs.drop 16).map V.int)) := by rw [upd_same, show (16 : Int) = ((16 : Nat) : Int) from rfl, cut_ok]
    generalize upd H5 q2 (.lst (cutV (rs.map V.int) (some 16) none)) = H6 at *
    refine ⟨t, q2, zs, tiesS n cut, rs.drop 16, rfl, s6 _ _ ht, hZ.mono s6, .inl (.inl e2), rowOk_drop hro 16, ties_nodup D.isC, ties_small D.isC h12, by omega, by rw [List.length_drop]; omega, by omega, fun H7 d dom f s7 nd hF hdm hfr => ?_⟩
    have s57 := s5.trans (s6.trans s7)
    have D7 := D.mono (s6.trans s7)
    clear e2 s6 s7 nd s5 D ht hZ
    have hD : ∀ p ∈ tiesS n cut, p ∈ dom ∧ Frac 1000 (f p) := fun p hp => ⟨(hdm p).mpr hp, (hfr p hp).more (by decide)⟩
    obtain ⟨xs, hc, hX⟩ := D7.ex
    have hxl := hX.length
    refine ⟨_, rfl, _, rfl, _, rfl, n, c, d, xs, cut, dom, f, rfl, h3, h12, hc, hX, by omega, D7.isC, hF, hD, fun H8 e s8 ne hG => ?_⟩
    have hFe : ∀ p ∈ cut, Frac 40 (rateL n cut f p) := fun p hp => rateL_frac D7.isC hfr hp
    refine ⟨_, rfl, p, _, _, _, rfl, rfl, hR (s57.trans s8), a2, _, _, rfl, rfl, (by show (0 : Int) < _; decide), rfl, ?_⟩
    show gName 6 (V.bl (decide (V.int (r2 % 3) = V.int 1))) _ _ _
    generalize decide (V.int (r2 % 3) = V.int 1) = fr
    refine ⟨fun σ H' => ∃ (k : Option V) (R : Int × Int → Int × Int), σ = [some (.ref a), some (.ref p), some (.int n), some (.ref c), some (.ref d), some (.ref e), some (.bl fr), k, none, none, none, none, none, none, none, none, none, none] ∧ Same H7 H' ∧ FD K H' e cut R ∧ (∀ q ∈ cut, Frac 40 (R q)) ∧ (fr = false → R = rateL n cut f), ?_, ?_⟩
    · refine ⟨_, rfl, fr, rfl, ?_⟩
      cases fr with
      | false => exact iteF ⟨_, _, rfl, s8, hG, hFe, fun _ => rfl⟩
      | true =>
        refine iteT ?_
        refine ⟨_, rfl, _, _, rfl, .inl (.inl (.inl (s8 _ _ hc))), _, rfl, by omega, by omega, for_range (lo := 0) (n := ((xs.length : Nat) : Int).toNat) (fun i σ H' => ∃ (k : Option V) (R : Int × Int → Int × Int), σ = [some (.ref a), some (.ref p), some (.int n), some (.ref c), some (.ref d), some (.ref e), some (.bl true), k, none, none, none, none, none, none, none, none, none, none] ∧ Same H7 H' ∧ FD K H' e cut R ∧ (∀ q ∈ cut, Frac 40 (R q))) ⟨_, _, rfl, s8, hG, hFe⟩ ?_ ?_⟩
        · rintro i σ H' hi ⟨k, R, rfl, s9, hG9, hR9⟩
          have hi' : i < cut.length := by omega
          obtain ⟨u, eu, hu⟩ := hX.at' (List.getElem?_eq_getElem hi')
          obtain ⟨u, rfl, hu⟩ := hu
          obtain ⟨rv, mv, av⟩ := int_at (rs := rs) (k := 16 + i) (by omega)
          have av : atI (rs.map V.int) (16 + (0 + (i : Int))) = some (.int rv) := by
            rw [show (16 + (0 + (i : Int))) = ((16 + i : Nat) : Int) by omega]
            exact av
          have eu2 : atI xs (0 + (i : Int)) = some (.ref u) := by
            rw [Int.zero_add]
            exact atI_nat eu
          refine ⟨_, rfl, _, rfl, _, _, rfl, rfl, p, _, _, _, rfl, rfl, hR (s57.trans s9), av, rv, rfl, fun H3' v x sv hv hx => ?_⟩
          obtain ⟨⟨kz, ez, rz⟩, nz, sz⟩ := hG9.mono sv
          have hfz := rz.length
          have s9v := s9.trans sv
          refine ⟨_, rfl, _, rfl, _, rfl, c, _, _, _, rfl, rfl, .inl (.inl (s9v _ _ hc)), eu2, e, _, rfl, DPut.t ez (key_pk (s9v _ _ hu)) (small200' (by omega)), ?_⟩
          refine ⟨_, _, rfl, same_put s9v ne, FD.set nz sz ez rz (List.getElem_mem hi') hv, fun q hq => ?_⟩
          unfold setF
          split
          · exact hx.more (by decide)
          · exact hR9 q hq
        · rintro σ H' ⟨k, R, rfl, s9, hG9, hR9⟩
          exact ⟨_, _, rfl, s9, hG9, hR9, fun z => nomatch z⟩
    rintro _ H9 ⟨k, R, rfl, s9, hG9, hR9, hfree⟩
    have s59 := s57.trans s9
    have D9 := D7.mono s9
    have hF9 := hF.mono s9
    have hc9 := s9 _ _ hc
    have hX9 := hX.mono s9
    clear hG hFe D7 hF hc hX s9 s57 s8
    refine ⟨_, rfl, _, rfl, p, _, _, _, rfl, rfl, hR s59, a3, n, r3, rfl, h3, h12, fun HA vb sA => ?_⟩
    refine ⟨_, rfl, p, _, _, _, rfl, rfl, hR (s59.trans sA), a2, _, rfl, _, _, rfl, rfl, _, _, rfl, rfl, (by show (0 : Int) < _; omega), _, _, rfl, rfl, small200 (by show 2 ≤ 200; decide), fun u0 hu0 => ?_⟩
    have sB := same_new (o := .tup [.int vb, .int (r2 % (n + 2) - 1)]) hu0
    have hu1 : (upd HA u0 (.tup [.int vb, .int (r2 % (n + 2) - 1)])) u0 = some (.tup [.int vb, .int (r2 % (n + 2) - 1)]) := upd_same
    generalize upd HA u0 (.tup [.int vb, .int (r2 % (n + 2) - 1)]) = HB at *
    have sAB := sA.trans sB
    have s5B := s59.trans sAB
    have hcB := sAB _ _ hc9
    have hXB := hX9.mono sAB
    refine ⟨fun σ H' => ∃ (u : Addr) (r0 : Int × Int), σ = [some (.ref a), some (.ref p), some (.int n), some (.ref c), some (.ref d), some (.ref e), some (.bl fr), k, some (.ref u), none, none, none, none, none, none, none, none, none] ∧ Same HB H' ∧ H' u = some (.tup [.int r0.1, .int r0.2]), ?_, ?_⟩
    · refine ⟨_, rfl, p, _, _, _, rfl, rfl, hR s5B, a4, _, _, rfl, rfl, (by show (0 : Int) < _; decide), rfl, _, rfl, ite2 (fun _ => ?_) (fun _ => ?_)⟩
      · refine ⟨_, rfl, small200 (by show 0 ≤ 200; decide), fun l0 hl0 => ?_⟩
        have sl := same_new (o := .lst []) hl0
        have hl2 : (upd HB l0 (.lst [])) l0 = some (.lst []) := upd_same
        generalize upd HB l0 (.lst []) = HB2 at *
        have hcB2 := sl _ _ hcB
        refine ⟨c, l0, xs, [], cut, [], rfl, rfl, .inl (.inl hcB2), hXB.mono sl, .inl (.inl hl2), .nil, by omega, by decide, _, rfl, ite2 (fun hd => ?_) (fun _ => ?_)⟩
        · have hd : (!decide (cut = [])) = true := hd
          have hne : 0 < cut.length := by
            cases cut with
            | nil => cases hd
            | cons _ _ => exact Nat.succ_pos _
          have hlen2 : (0 : Int) < (xs.length : Int) := by omega
          have k0 := Int.emod_nonneg r3 (show (xs.length : Int) ≠ 0 by omega)
          have k1 := Int.emod_lt_of_pos r3 hlen2
          obtain ⟨w, ew, hw⟩ := (hXB.mono sl).at' (List.getElem?_eq_getElem (show (r3 % (xs.length : Int)).toNat < cut.length by omega))
          obtain ⟨w, rfl, hw⟩ := hw
          have ew2 : atI xs (r3 % (xs.length : Int)) = some (.ref w) := by
            have := atI_nat ew
            rw [Int.toNat_of_nonneg k0] at this
            exact this
          refine ⟨_, rfl, _, rfl, p, _, _, _, rfl, rfl, hR (s5B.trans sl), a3, _, rfl, _, _, rfl, .inl (.inl (.inl hcB2)), _, _, rfl, rfl, hlen2, c, xs, _, V.ref w, rfl, rfl, .inl (.inl hcB2), ew2, ?_⟩
          exact ⟨w, _, rfl, sl, hw⟩
        · exact ⟨u0, (vb, r2 % (n + 2) - 1), rfl, sl, sl _ _ hu1⟩
      · exact iteF ⟨u0, (vb, r2 % (n + 2) - 1), rfl, Same.refl _, hu1⟩
    rintro _ HC ⟨u, r0, rfl, sC, hu⟩
    have s9C := sAB.trans sC
    have s5C := s59.trans s9C
    have DC := D9.mono s9C
    have hFC := hF9.mono s9C
    have hcC := s9C _ _ hc9
    have hXC := hX9.mono s9C
    have hGC := hR9
    have hGe := FD.mono s9C hG9
    clear D9 hF9 hc9 hX9 hG9 hcB hXB hu1 sC s9C sAB s5B s59 sA sB
    have hU : SqT K HC u [.int r0.1, .int r0.2] := .inl (.inl hu)
    refine ⟨_, rfl, u, _, _, _, rfl, rfl, hU, atI_nat (j := 0) rfl, _, rfl, u, _, _, _, rfl, rfl, hU, atI_nat (j := 1) rfl, r0.1, r0.2, rfl, fun u2 hu2 => ?_⟩
    have sD := same_new (o := .tup [.int (pr r0.1 r0.2).1, .int (pr r0.1 r0.2).2]) hu2
    have hu3 : (upd HC u2 (.tup [.int (pr r0.1 r0.2).1, .int (pr r0.1 r0.2).2])) u2 = some (.tup [.int (pr r0.1 r0.2).1, .int (pr r0.1 r0.2).2]) := upd_same
    generalize upd HC u2 (.tup [.int (pr r0.1 r0.2).1, .int (pr r0.1 r0.2).2]) = HD at *
    refine ⟨_, rfl, pr r0.1 r0.2, c, xs, cut, ⟨u2, rfl, hu3⟩, rfl, .inl (.inl (sD _ _ hcC)), hXC.mono sD, by omega, ?_⟩
    show gName 9 (V.bl (decide (pr r0.1 r0.2 ∈ cut))) _ _ _
    obtain ⟨⟨kvs, ek, rk⟩, nk, sk⟩ := hGe.mono sD
    refine ⟨_, rfl, e, kvs, cut, rfl, ek, Ents.keys rk, nk, sk, fun h0 hh0 => ?_⟩
    have sE := same_new (o := .dT kvs) hh0
    have hh1 : (upd HD h0 (.dT kvs)) h0 = some (.dT kvs) := upd_same
    have neh : h0 ≠ e := (ne_of_none ek hh0).symm
    generalize upd HD h0 (.dT kvs) = HE at *
    have hHd : FD K HE h0 cut R := ⟨⟨kvs, hh1, Ents.tups (TupS.of sE) rk⟩, nk, sk⟩
    have sDE := sD.trans sE
    refine ⟨fun σ H' => ∃ (h : Addr) (dh : List (Int × Int)), σ = [some (.ref a), some (.ref p), some (.int n), some (.ref c), some (.ref d), some (.ref e), some (.bl fr), k, some (.ref u), some (.bl (decide (pr r0.1 r0.2 ∈ cut))), some (.ref h), none, none, none, none, none, none, none] ∧ Same HE H' ∧ FD K H' h dh R ∧ (∀ q, q ∈ dh ↔ q ∈ cut) ∧ h ≠ e, ?_, ?_⟩
    · refine ⟨_, rfl, p, _, _, _, rfl, rfl, hR (s5C.trans sDE), a4, _, _, rfl, rfl, ⟨by decide, by decide⟩, _, _, rfl, rfl, (by show (0 : Int) < _; decide), rfl, _, rfl, ite2 (fun _ => ?_) (fun _ => ⟨_, _, rfl, Same.refl _, hHd, fun _ => Iff.rfl, neh⟩)⟩
      have hGE := hGe.mono sDE
      obtain ⟨⟨kw, ew, rw'⟩, nw, sw⟩ := id hGE
      refine ⟨_, rfl, .inr (.inr (.inl ⟨rfl, .inr ⟨_, ew⟩⟩)), e, kw, rfl, rfl, ew, fun pv hpv => ?_⟩
      have sF := same_new (o := L2.DX.itemsO pv e) hpv
      refine ⟨pv, e, cut, R, rfl, rfl, upd_same, hGE.mono sF, by omega, fun HS l xs' ps sS hperm hl hA => ?_⟩
      refine ⟨l, xs', ps, R, rfl, hl, hA, hperm.nodup_iff.mpr nw, fun q hq => sw q (hperm.mem_iff.mp hq), by have := hperm.length_eq; omega, fun HT h2 sT nh hF2 => ?_⟩
      exact ⟨h2, ps, rfl, (sF.trans sS).trans sT, hF2, fun q => hperm.mem_iff, (ne_of_none ((sF.trans sS) _ _ ew) nh).symm⟩
    rintro _ HF ⟨h, dh, rfl, sF, hHh, hdh, neh2⟩
    have sCF := sDE.trans sF
    have hcF := sCF _ _ hcC
    refine ⟨_, rfl, c, xs, rfl, .inl (.inl (.inl hcF)), fun g hg => ?_⟩
    have sG := same_new (o := .lst xs) hg
    have hg2 : (upd HF g (.lst xs)) g = some (.lst xs) := upd_same
    generalize upd HF g (.lst xs) = HG at *
    have sCG := sCF.trans sG
    have huG := sCG _ _ hu
    have hcG := sCG _ _ hcC
    have hXG := hXC.mono sCG
    have hGG := hGe.mono sCG
    have hHG := hHh.mono sG
    have hFG := hFC.mono sCG
    have DG := DC.mono sCG
    have hfew := DG.few
    clear hHh sF sG sCF hcF hg sDE hHd neh hh1 sE ek rk nk sk hu3 sD hU hXC hcC hFC DC hGe hu sCG
    have hU : SqT K HG u [.int r0.1, .int r0.2] := .inl (.inl huG)
    have epr : pr r0.2 r0.1 = pr r0.1 r0.2 := pr_comm _ _
    refine ⟨_, rfl, _, rfl, _, rfl, _, rfl, u, _, _, _, rfl, rfl, hU, atI_nat (j := 1) rfl, _, rfl, u, _, _, _, rfl, rfl, hU, atI_nat (j := 0) rfl, n, g, h, xs, cut, dh, R, r0.2, r0.1, rfl, h3, h12, hg2, hXG, by omega, DG.isC, hHG, hdh, fun q hq => (hR9 q hq).more (by decide), fun hn HI sI => ?_, fun hm x y hT HI D2 sI nD2 hF2 => ?_⟩
    · refine ⟨true, PySem.W.exm_ref T.bs_MeadError T.e_MeadError.hd T.ty_MeadError T.sub_NoRope_MeadError, fun _ ex hex => ⟨⟨rfl, rfl⟩, ?_⟩, fun z => nomatch z⟩
      rw [epr] at hn
      refine ⟨_, rfl, _, rfl, _, rfl, ?_⟩
      show if (!decide (pr r0.1 r0.2 ∈ cut)) = true then _ else _
      rw [decide_eq_false hn]
      refine iteT ?_
      exact ⟨_, rfl, _, _, _, rfl, (fun _ z => z), T.kit_NoRope_NoRope, q _⟩
    · rw [epr] at hm hT hF2
      generalize epp : pr r0.1 r0.2 = pp at *
      have hppl := cut_lt DG.isC hm
      have hppe : pr pp.1 pp.2 = pp := pr_of_lt (by omega)
      have hcI := sI _ _ hcG
      have hXI := hXG.mono sI
      have hGI := hGG.mono sI
      have hFI := hFG.mono sI
      have huI := sI _ _ huG
      refine ⟨_, rfl, _, rfl, ?_⟩
      show if (!decide (pp ∈ cut)) = true then _ else _
      rw [decide_eq_true hm]
      refine iteF ?_
      refine ⟨_, rfl, _, rfl, g, c, xs, xs, cut, cut, rfl, rfl, .inl (.inl (sI _ _ hg2)), hXI, .inl (.inl hcI), hXI, by omega, by omega, _, rfl, ?_⟩
      show if (!decide (cut = cut)) = true then _ else _
      rw [decide_eq_true rfl]
      refine iteF ?_
      refine ⟨_, rfl, _, rfl, h, e, dh, cut, R, rfl, neh2, hHG.mono sI, hGI, hdh, fun q hq => (hR9 q hq).more (by decide), by omega, fun HJ sJ => ⟨true, rfl, iteF ?_⟩⟩
      have huJ := sJ _ _ huI
      have hU : SqT K HJ u [.int r0.1, .int r0.2] := .inl (.inl huJ)
      refine ⟨_, rfl, u, _, _, _, rfl, rfl, hU, atI_nat (j := 0) rfl, _, rfl, u, _, _, _, rfl, rfl, hU, atI_nat (j := 1) rfl, r0.1, r0.2, rfl, fun u4 hu4 => ?_⟩
      rw [epp] at *
      have sK := same_new (o := .tup [.int pp.1, .int pp.2]) hu4
      have hu5 : (upd HJ u4 (.tup [.int pp.1, .int pp.2])) u4 = some (.tup [.int pp.1, .int pp.2]) := upd_same
      generalize upd HJ u4 (.tup [.int pp.1, .int pp.2]) = HK at *
      have sIK := sJ.trans sK
      have hcK := sIK _ _ hcI
      have hXK := hXI.mono sIK
      have hGK := hGI.mono sIK
      have hFK := hFI.mono sIK
      have hF2K := hF2.mono sIK
      have hfrR : ∀ q, (q ∈ cut ∧ q ≠ pp) ∨ q = (x, y) → Frac 122 (tR R pp x y q) := fun q hq => turnedR_frac (b := 40) (hR9 pp hm) (fun ne => by
        rw [pr_mz hT] at ne
        exact hR9 q (hq.resolve_right ne).1)
      have mem2 : ∀ q, q ∈ (dh.filter fun q => decide (q ≠ pp)) ++ [(x, y)] ↔ (q ∈ cut ∧ q ≠ pp) ∨ q = (x, y) := fun q => mem_laid.trans (by rw [hdh])
      have hlen2 : ((dh.filter fun q => decide (q ≠ pp)) ++ [(x, y)]).length ≤ 30 := by
        have h1 := List.length_filter_le (fun q => decide (q ≠ pp)) dh
        have h2 := dom_len hHG.nd hGG.nd hdh
        rw [List.length_append, List.length_singleton]
        omega
      generalize (dh.filter fun q => decide (q ≠ pp)) ++ [(x, y)] = dom2 at *
      clear sI sJ sK sIK hcI hXI hGI hFI huI huJ hU hF2 hHG hXG hcG hGG hFG hg2 huG
      refine ⟨_, rfl, _, rfl, _, rfl, _, rfl, _, rfl, n, c, e, .ref u4, xs, cut, cut, R, pp, x, y, rfl, h3, h12, hcK, hXK, by omega, DG.isC, ⟨u4, rfl, hu5⟩, hm, hT, hGK, fun _ => Iff.rfl, fun q hq => (hR9 q hq).more (by decide), fun HL D3 sL nD3 hF3 => ?_⟩
      have hne : D2 ≠ D3 := by
        obtain ⟨kv, ee, _⟩ := hF2K.few
        exact ne_of_none ee nD3
      have mem3 : ∀ q, q ∈ (cut.filter fun q => decide (q ≠ pp)) ++ [(x, y)] ↔ (q ∈ cut ∧ q ≠ pp) ∨ q = (x, y) := fun q => mem_laid
      refine ⟨D2, D3, dom2, _, _, rfl, hne, hF2K.mono sL, hF3, fun q => (mem2 q).trans (mem3 q).symm, fun q hq => (hfrR q ((mem3 q).mp hq)).more (by decide), (by
        have h1 := List.length_filter_le (fun q => decide (q ≠ pp)) cut
        rw [List.length_append, List.length_singleton]
        omega), fun HM sM => ⟨true, rfl, iteF ?_⟩⟩
      have sKM := sL.trans sM
      have hcM := sKM _ _ hcK
      have hXM := hXK.mono sKM
      have hGM := hGK.mono sKM
      have hFM := hFK.mono sKM
      have hF2M := hF2K.mono sKM
      have hu6 := sKM _ _ hu5
      clear hF3 hne sL nD3 sM sKM hcK hXK hGK hFK hF2K hu5
      refine ⟨_, rfl, _, rfl, _, rfl, n, c, .ref u4, xs, cut, pp, rfl, h3, h12, hcM, hXM, ⟨u4, rfl, hu6⟩, by omega, DG.isC, hm, fun HN late ys sN nl hl hY => ?_⟩
      have hcN := sN _ _ hcM
      have hXN := hXM.mono sN
      have hGN := hGM.mono sN
      have hFN := hFM.mono sN
      have hF2N := hF2M.mono sN
      have hu7 := sN _ _ hu6
      clear hcM hXM hGM hFM hF2M hu6 sN nl
      have hyl := hY.length
      have hml := hT.len
      refine ⟨_, rfl, late, rfl, ⟨_, .inl (.inl hl)⟩, fun D hD => ?_⟩
      refine lc_list (K := K) (a := late) (xs := ys) (fun i H' => ∃ ws, Same HN H' ∧ H' D = some (.lst ws) ∧ PrL K H' ws (((turnL n cut pp).take i).filter fun q => decide (q ∉ cut))) ⟨[], same_new hD, upd_same, by rw [List.take_zero]; exact .nil⟩ ?_ ?_ ?_
      · rintro i H' _ ⟨ws, s3, _, _⟩
        exact .inl (.inl (s3 _ _ hl))
      · rintro i x' H' hi ⟨ws, s3, hz, hZ'⟩
        obtain ⟨e', he, hx⟩ := hY.at hi
        have hx' := hx.mono s3
        have hil : i < (turnL n cut pp).length := (List.getElem?_eq_some_iff.mp he).1
        have hzl := hZ'.length
        have hfl : (((turnL n cut pp).take i).filter fun q => decide (q ∉ cut)).length ≤ i := Nat.le_trans (List.length_filter_le _ _) (by rw [List.length_take]; omega)
        refine ⟨rfl, _, rfl, _, rfl, e', c, xs, cut, hx', rfl, .inl (.inl (s3 _ _ hcN)), hXN.mono s3, by omega, _, rfl, ?_⟩
        show if (!decide (e' ∈ cut)) = true then _ else _
        rw [take_more he, filter_more]
        by_cases em : e' ∈ cut
        · rw [decide_eq_true em]
          refine iteF ?_
          rw [if_neg (by simp [em]), List.append_nil]
          exact ⟨ws, s3, hz, hZ'⟩
        · rw [decide_eq_false em]
          refine iteT ?_
          rw [if_pos (by simpa using em)]
          refine ⟨_, rfl, ws, hz, small200' (by omega), ws ++ [x'], ?_, upd_same, ?_⟩
          · intro b' o eb
            rw [upd_ne (ne_of_none eb hD)]
            exact s3 _ _ eb
          · have ts := TupS.put (o := .lst (ws ++ [x'])) hz
            exact (hZ'.tups ts).app (.one (let ⟨t', e1, e2⟩ := hx'; ⟨t', e1, ts _ _ e2⟩))
      rintro HO ⟨ws, sO, hz, hZ'⟩
      rw [List.take_of_length_le (by omega), turns_fresh hT] at hZ'
      obtain ⟨w, rfl, hw⟩ : ∃ w, ws = [V.ref w] ∧ HO w = some (.tup [.int x, .int y]) := by
        match ws, hZ' with
        | [_], .cons ⟨w, e, hw⟩ .nil => exact ⟨w, by rw [e], hw⟩
      have hlO := sO _ _ hl
      have hYO := hY.mono sO
      have hcO := sO _ _ hcN
      have hXO := hXN.mono sO
      have hGO := hGN.mono sO
      have hFO := hFN.mono sO
      have hF2O := hF2N.mono sO
      have hu8 := sO _ _ hu7
      clear hl hY hcN hXN hGN hFN hF2N hu7 hD hZ' sO
      refine ⟨D, _, _, .ref w, rfl, rfl, .inl (.inl hz), rfl, ?_⟩
      refine ⟨fun σ H' => ∃ vb, σ = [some (.ref a), some (.ref p), some (.int n), some (.ref c), some (.ref d), some (.ref e), some (.bl fr), k, some (.ref u4), some (.bl true), some (.ref h), some (.ref g), some (.ref D2), none, some (.ref late), some (.ref w), vb, none] ∧ Same HO H', ?_, ?_⟩
      · refine ⟨_, rfl, fr, rfl, ?_⟩
        cases fr with
        | true => exact iteF ⟨none, rfl, Same.refl _⟩
        | false =>
          refine iteT ?_
          have eR := hfree rfl
          refine ⟨_, rfl, _, rfl, c, xs, rfl, .inl (.inl (.inl hcO)), fun g1 hg1 => ?_⟩
          have r1 := same_new (o := .lst xs) hg1
          have hg3 : (upd HO g1 (.lst xs)) g1 = some (.lst xs) := upd_same
          generalize upd HO g1 (.lst xs) = HA1 at *
          obtain ⟨⟨kvs, ek, rk⟩, nk, sk⟩ := hFO.mono r1
          refine ⟨_, rfl, d, kvs, dom, rfl, ek, Ents.keys rk, nk, sk, fun d1 hd1 => ?_⟩
          have r2' := same_new (o := .dT kvs) hd1
          have hd2 : (upd HA1 d1 (.dT kvs)) d1 = some (.dT kvs) := upd_same
          generalize upd HA1 d1 (.dT kvs) = HA2 at *
          have hFA : FD K HA2 d1 dom f := ⟨⟨kvs, hd2, Ents.tups (TupS.of r2') rk⟩, nk, sk⟩
          have r12 := r1.trans r2'
          have hU : SqT K HA2 u4 [.int pp.1, .int pp.2] := .inl (.inl (r12 _ _ hu8))
          refine ⟨_, rfl, u4, _, _, _, rfl, rfl, hU, atI_nat (j := 0) rfl, _, rfl, u4, _, _, _, rfl, rfl, hU, atI_nat (j := 1) rfl, ?_⟩
          refine ⟨n, g1, d1, xs, cut, dom, f, pp.1, pp.2, rfl, h3, h12, r2' _ _ hg3, hXO.mono r12, by omega, DG.isC, hFA, hdm, fun q hq => (hfr q hq).more (by decide), fun hn => absurd hm (by rw [hppe] at hn; exact hn), fun _ x' y' hT' HA3 D5 r3' nD5 hF5 => ?_⟩
          rw [hppe] at hT' hF5
          have exy' : x' = x ∧ y' = y := by
            have h1 := hT'.bes
            rw [hT.bes] at h1
            have h2 := List.cons.inj h1
            exact ⟨h2.1.symm, (List.cons.inj h2.2).1.symm⟩
          rw [exy'.1, exy'.2] at hF5
          have r13 := r12.trans r3'
          have mem5 : ∀ q, q ∈ (dom.filter fun q => decide (q ≠ pp)) ++ [(x, y)] ↔ q ∈ tiesS n (turnL n cut pp) := fun q => (mem_laid.trans (by rw [hdm])).trans (turn_ties DG.isC hm hT q).symm
          have fr5 : ∀ q ∈ tiesS n (turnL n cut pp), Frac 51 (laidF f pp x y q) := fun q hq => laidF_frac hm hT hfr ((turn_ties DG.isC hm hT q).mp hq)
          generalize (dom.filter fun q => decide (q ≠ pp)) ++ [(x, y)] = dom5 at *
          have Qd : Quad n cut pp (mOf pp x y) (zOf pp x y) (turnL n cut pp) f (laidF f pp x y) :=
            { cut := DG.isC
              cut' := hT.isC
              rope := hm
              new := by rw [pr_mz hT]; exact (hT.mem _).mpr (.inr rfl)
              ar := round hT
              ties := fun q => by rw [pr_mz hT]; exact turn_ties DG.isC hm hT q
              mem := fun q => by rw [pr_mz hT]; exact hT.mem q
              fr := fun q hq => (hfr q hq).more (by decide)
              gr := fr5
              off := fun q hq => laidF_off (fun z => new_no_tie hT (z ▸ hq))
              on := by rw [pr_mz hT]; exact laidF_on }
          refine ⟨_, rfl, _, rfl, late, ys, rfl, .inl (.inl (.inl (r13 _ _ hlO))), fun l1 hl1 => ?_⟩
          have r4' := same_new (o := .lst ys) hl1
          have hl5 : (upd HA3 l1 (.lst ys)) l1 = some (.lst ys) := upd_same
          generalize upd HA3 l1 (.lst ys) = HA4 at *
          have r14 := r13.trans r4'
          refine ⟨_, rfl, n, l1, D5, ys, turnL n cut pp, dom5, _, rfl, h3, h12, hl5, hYO.mono r14, by omega, hT.isC, hF5.mono r4', fun q hq => ⟨(mem5 q).mpr hq, (fr5 q hq).more (by decide)⟩, fun HA5 D6 r5 nD6 hF6 => ?_⟩
          have hne : D6 ≠ D2 := by
            obtain ⟨kv, ee, _⟩ := (hF2O.mono r14).few
            exact (ne_of_none ee nD6).symm
          have r15 := r14.trans r5
          refine ⟨_, rfl, D6, D2, turnL n cut pp, dom2, tR R pp x y, rfl, hne, hF6.val fun q hq => ?_, hF2O.mono r15, fun q => (hT.mem q).trans (mem2 q).symm, fun q hq => (hfrR q ((mem2 q).mp hq)).more (by decide), by omega, fun HA6 r6 => ⟨true, rfl, iteF ?_⟩⟩
          · rw [rates_turned Qd hq, eR]
            rfl
          · exact ⟨_, rfl, r15.trans r6⟩
      rintro _ HP ⟨vb, rfl, sP⟩
      have hlP := sP _ _ hlO
      have hYP := hYO.mono sP
      have hF2P := hF2O.mono sP
      have hGP := hGO.mono sP
      have hwP := sP _ _ hw
      refine ⟨_, rfl, _, rfl, late, ys, rfl, .inl (.inl (.inl hlP)), fun l2 hl2 => ?_⟩
      have sQ := same_new (o := .lst ys) hl2
      have hl3 : (upd HP l2 (.lst ys)) l2 = some (.lst ys) := upd_same
      generalize upd HP l2 (.lst ys) = HQ at *
      obtain ⟨⟨kvs, ek, rk⟩, nk, sk⟩ := hF2P.mono sQ
      refine ⟨_, rfl, D2, kvs, dom2, rfl, ek, Ents.keys rk, nk, sk, fun d2 hd2 => ?_⟩
      have sR := same_new (o := .dT kvs) hd2
      have hd3 : (upd HQ d2 (.dT kvs)) d2 = some (.dT kvs) := upd_same
      generalize upd HQ d2 (.dT kvs) = HR at *
      have hFR : FD K HR d2 dom2 (tR R pp x y) := ⟨⟨kvs, hd3, Ents.tups (TupS.of sR) rk⟩, nk, sk⟩
      have sPR := sQ.trans sR
      have hW : SqT K HR w [.int x, .int y] := .inl (.inl (sPR _ _ hwP))
      have h01 := hT.xy
      have exy : pr x y = (x, y) := pr_of_lt h01
      have hmm : (x, y) ∈ turnL n cut pp := (hT.mem _).mpr (.inr rfl)
      refine ⟨_, rfl, w, _, _, _, rfl, rfl, hW, atI_nat (j := 0) rfl, _, rfl, w, _, _, _, rfl, rfl, hW, atI_nat (j := 1) rfl, ?_⟩
      refine ⟨n, l2, d2, ys, _, dom2, _, x, y, rfl, h3, h12, sR _ _ hl3, hYP.mono sPR, by omega, hT.isC, hFR, fun q => (mem2 q).trans (hT.mem q).symm, fun q hq => (hfrR q ((hT.mem q).mp hq)).more (by decide), fun hn => absurd hmm (by rw [exy] at hn; exact hn), fun _ x2 y2 hT2 HS D4 sS nD4 hF4 => ?_⟩
      rw [exy] at hT2 hF4
      have e2 := old_of DG.isC DG.srt hm hT hT2
      have ex2 : x2 = pp.1 := congrArg Prod.fst e2
      have ey2 : y2 = pp.2 := congrArg Prod.snd e2
      rw [ex2, ey2] at hF4
      have hGS := hGP.mono (sPR.trans sS)
      have hne : D4 ≠ e := by
        obtain ⟨kv, ee, _⟩ := (hGP.mono sPR).few
        exact (ne_of_none ee nD4).symm
      have hmem : ∀ q, q ∈ (dom2.filter fun q => decide (q ≠ (x, y))) ++ [(pp.1, pp.2)] ↔ q ∈ cut := fun q => by
        rw [mem_laid, mem2]
        constructor
        · rintro (⟨h | h, e⟩ | h)
          · exact h.1
          · exact absurd h e
          · rw [h]; exact hm
        · intro h
          by_cases eq : q = pp
          · exact .inr eq
          · exact .inl ⟨.inl ⟨h, eq⟩, fun z => hT.new (z ▸ h)⟩
      exact ⟨_, rfl, D4, e, _, cut, R, rfl, hne, hF4.val fun q hq => turned_back hm hT hR9 ((hmem q).mp hq), hGS, hmem, fun q hq => (hR9 q hq).more (by decide), by omega, fun HT sT => q _⟩

theorem all_mk {l : PySem.W.OpenLaw} {w : World} {K : PySem.W.Frag} {h : Heap} {mg : Str → Option Value} {fa C_MeadError C_NoFraction C_NoRope f_pair_of f_sides f_ties f_beside f_new_rope f_lowest f_plus f_times f_over f_ratio f_ratios f_turned_ratios f_ties_round f_product_of f_laid f_across f__law_flow f__law_whole f__law_low f__law_add f__law_mul f__law_div f__law_part f__law_size f__law_many f__law_pair f__law_ears f__law_ropes f__law_sides f__law_ties f__law_sized f__law_beside f__law_turned f__law_tuple f__law_dict f__law_ring f__law_ratio f__law_ratios f__law_wild f__law_due f_law o_ONE : Addr} (X : K.In h) (G : h.Ns mainGlobals mg) (hfa : mg "law" = some (.ref fa))
    {od_pair_of an_pair_of : Option Addr} {sl_pair_of : Array (Option Value)} {oc_pair_of kV_pair_of dc_pair_of pm_pair_of cd_pair_of ct_pair_of : Value}
    {od_sides an_sides : Option Addr} {sl_sides : Array (Option Value)} {oc_sides kV_sides dc_sides pm_sides cd_sides ct_sides : Value}
    {od_ties an_ties : Option Addr} {sl_ties : Array (Option Value)} {oc_ties kV_ties dc_ties pm_ties cd_ties ct_ties : Value}
    {od_beside an_beside : Option Addr} {sl_beside : Array (Option Value)} {oc_beside kV_beside dc_beside pm_beside cd_beside ct_beside : Value}
    {od_new_rope an_new_rope : Option Addr} {sl_new_rope : Array (Option Value)} {oc_new_rope kV_new_rope dc_new_rope pm_new_rope cd_new_rope ct_new_rope : Value}
    {od_lowest an_lowest : Option Addr} {sl_lowest : Array (Option Value)} {oc_lowest kV_lowest dc_lowest pm_lowest cd_lowest ct_lowest : Value}
    {od_plus an_plus : Option Addr} {sl_plus : Array (Option Value)} {oc_plus kV_plus dc_plus pm_plus cd_plus ct_plus : Value}
    {od_times an_times : Option Addr} {sl_times : Array (Option Value)} {oc_times kV_times dc_times pm_times cd_times ct_times : Value}
    {od_over an_over : Option Addr} {sl_over : Array (Option Value)} {oc_over kV_over dc_over pm_over cd_over ct_over : Value}
    {od_ratio an_ratio : Option Addr} {sl_ratio : Array (Option Value)} {oc_ratio kV_ratio dc_ratio pm_ratio cd_ratio ct_ratio : Value}
    {od_ratios an_ratios : Option Addr} {sl_ratios : Array (Option Value)} {oc_ratios kV_ratios dc_ratios pm_ratios cd_ratios ct_ratios : Value}
    {od_turned_ratios an_turned_ratios : Option Addr} {sl_turned_ratios : Array (Option Value)} {oc_turned_ratios kV_turned_ratios dc_turned_ratios pm_turned_ratios cd_turned_ratios ct_turned_ratios : Value}
    {od_ties_round an_ties_round : Option Addr} {sl_ties_round : Array (Option Value)} {oc_ties_round kV_ties_round dc_ties_round pm_ties_round cd_ties_round ct_ties_round : Value}
    {od_product_of an_product_of : Option Addr} {sl_product_of : Array (Option Value)} {oc_product_of kV_product_of dc_product_of pm_product_of cd_product_of ct_product_of : Value}
    {od_laid an_laid : Option Addr} {sl_laid : Array (Option Value)} {oc_laid kV_laid dc_laid pm_laid cd_laid ct_laid : Value}
    {od_across an_across : Option Addr} {sl_across : Array (Option Value)} {oc_across kV_across dc_across pm_across cd_across ct_across : Value}
    {od__law_flow an__law_flow : Option Addr} {sl__law_flow : Array (Option Value)} {oc__law_flow kV__law_flow dc__law_flow pm__law_flow cd__law_flow ct__law_flow : Value}
    {od__law_whole an__law_whole : Option Addr} {sl__law_whole : Array (Option Value)} {oc__law_whole kV__law_whole dc__law_whole pm__law_whole cd__law_whole ct__law_whole : Value}
    {od__law_low an__law_low : Option Addr} {sl__law_low : Array (Option Value)} {oc__law_low kV__law_low dc__law_low pm__law_low cd__law_low ct__law_low : Value}
    {od__law_add an__law_add : Option Addr} {sl__law_add : Array (Option Value)} {oc__law_add kV__law_add dc__law_add pm__law_add cd__law_add ct__law_add : Value}
    {od__law_mul an__law_mul : Option Addr} {sl__law_mul : Array (Option Value)} {oc__law_mul kV__law_mul dc__law_mul pm__law_mul cd__law_mul ct__law_mul : Value}
    {od__law_div an__law_div : Option Addr} {sl__law_div : Array (Option Value)} {oc__law_div kV__law_div dc__law_div pm__law_div cd__law_div ct__law_div : Value}
    {od__law_part an__law_part : Option Addr} {sl__law_part : Array (Option Value)} {oc__law_part kV__law_part dc__law_part pm__law_part cd__law_part ct__law_part : Value}
    {od__law_size an__law_size : Option Addr} {sl__law_size : Array (Option Value)} {oc__law_size kV__law_size dc__law_size pm__law_size cd__law_size ct__law_size : Value}
    {od__law_many an__law_many : Option Addr} {sl__law_many : Array (Option Value)} {oc__law_many kV__law_many dc__law_many pm__law_many cd__law_many ct__law_many : Value}
    {od__law_pair an__law_pair : Option Addr} {sl__law_pair : Array (Option Value)} {oc__law_pair kV__law_pair dc__law_pair pm__law_pair cd__law_pair ct__law_pair : Value}
    {od__law_ears an__law_ears : Option Addr} {sl__law_ears : Array (Option Value)} {oc__law_ears kV__law_ears dc__law_ears pm__law_ears cd__law_ears ct__law_ears : Value}
    {od__law_ropes an__law_ropes : Option Addr} {sl__law_ropes : Array (Option Value)} {oc__law_ropes kV__law_ropes dc__law_ropes pm__law_ropes cd__law_ropes ct__law_ropes : Value}
    {od__law_sides an__law_sides : Option Addr} {sl__law_sides : Array (Option Value)} {oc__law_sides kV__law_sides dc__law_sides pm__law_sides cd__law_sides ct__law_sides : Value}
    {od__law_ties an__law_ties : Option Addr} {sl__law_ties : Array (Option Value)} {oc__law_ties kV__law_ties dc__law_ties pm__law_ties cd__law_ties ct__law_ties : Value}
    {od__law_sized an__law_sized : Option Addr} {sl__law_sized : Array (Option Value)} {oc__law_sized kV__law_sized dc__law_sized pm__law_sized cd__law_sized ct__law_sized : Value}
    {od__law_beside an__law_beside : Option Addr} {sl__law_beside : Array (Option Value)} {oc__law_beside kV__law_beside dc__law_beside pm__law_beside cd__law_beside ct__law_beside : Value}
    {od__law_turned an__law_turned : Option Addr} {sl__law_turned : Array (Option Value)} {oc__law_turned kV__law_turned dc__law_turned pm__law_turned cd__law_turned ct__law_turned : Value}
    {od__law_tuple an__law_tuple : Option Addr} {sl__law_tuple : Array (Option Value)} {oc__law_tuple kV__law_tuple dc__law_tuple pm__law_tuple cd__law_tuple ct__law_tuple : Value}
    {od__law_dict an__law_dict : Option Addr} {sl__law_dict : Array (Option Value)} {oc__law_dict kV__law_dict dc__law_dict pm__law_dict cd__law_dict ct__law_dict : Value}
    {od__law_ring an__law_ring : Option Addr} {sl__law_ring : Array (Option Value)} {oc__law_ring kV__law_ring dc__law_ring pm__law_ring cd__law_ring ct__law_ring : Value}
    {od__law_ratio an__law_ratio : Option Addr} {sl__law_ratio : Array (Option Value)} {oc__law_ratio kV__law_ratio dc__law_ratio pm__law_ratio cd__law_ratio ct__law_ratio : Value}
    {od__law_ratios an__law_ratios : Option Addr} {sl__law_ratios : Array (Option Value)} {oc__law_ratios kV__law_ratios dc__law_ratios pm__law_ratios cd__law_ratios ct__law_ratios : Value}
    {od__law_wild an__law_wild : Option Addr} {sl__law_wild : Array (Option Value)} {oc__law_wild kV__law_wild dc__law_wild pm__law_wild cd__law_wild ct__law_wild : Value}
    {od__law_due an__law_due : Option Addr} {sl__law_due : Array (Option Value)} {oc__law_due kV__law_due dc__law_due pm__law_due cd__law_due ct__law_due : Value}
    {od_law an_law : Option Addr} {sl_law : Array (Option Value)} {oc_law kV_law dc_law pm_law cd_law ct_law : Value}
    {od_ONE : Option Addr} {n_ONE : Nat} {sl_ONE : Array (Option Value)} {t0_ONE t1_ONE : Tok}
    (q1_MeadError : PySem.W.nsIn K mainGlobals "MeadError" = some (some (.ref C_MeadError)))
    (q2_MeadError : PySem.W.excIn K C_MeadError [.type "ValueError", .type "Exception", .type "BaseException", .type "object"] "ValueError.__new__" = true)
    (q3_MeadError : PySem.W.keepIn K (.ref C_MeadError) = true)
    (q4_MeadError : PySem.W.subIn K (.ref C_MeadError) (.type "BaseException") = some true)
    (q5_MeadError : PySem.W.typeIn K (.ref C_MeadError) = some (.type "type"))
    (e1_MeadError : PySem.W.findIn K (.ref C_MeadError) "__getattribute__" = some (some (.builtin "BaseException.__getattribute__")))
    (e2_MeadError : PySem.W.findIn K (.ref C_MeadError) "__getattr__" = some none)
    (e3_MeadError : PySem.W.hasDictIn K C_MeadError = true)
    (e4_MeadError : PySem.W.findIn K (.ref C_MeadError) "__class__" = some (some (.builtin "object.__class__")))
    (e5_MeadError : PySem.W.specialIn K (.builtin "object.__class__") "__get__" = some (some (.builtin "getset_descriptor.__get__")))
    (e6_MeadError : PySem.W.takesIn K (.builtin "object.__class__") = some true)
    (e7_MeadError : PySem.W.mroIn K C_MeadError (.type "object") = some true)
    (q1_NoFraction : PySem.W.nsIn K mainGlobals "NoFraction" = some (some (.ref C_NoFraction)))
    (q2_NoFraction : PySem.W.excIn K C_NoFraction [.type "ValueError", .type "Exception", .type "BaseException", .type "object"] "ValueError.__new__" = true)
    (q3_NoFraction : PySem.W.keepIn K (.ref C_NoFraction) = true)
    (q4_NoFraction : PySem.W.subIn K (.ref C_NoFraction) (.type "BaseException") = some true)
    (q5_NoFraction : PySem.W.typeIn K (.ref C_NoFraction) = some (.type "type"))
    (e1_NoFraction : PySem.W.findIn K (.ref C_NoFraction) "__getattribute__" = some (some (.builtin "BaseException.__getattribute__")))
    (e2_NoFraction : PySem.W.findIn K (.ref C_NoFraction) "__getattr__" = some none)
    (e3_NoFraction : PySem.W.hasDictIn K C_NoFraction = true)
    (e4_NoFraction : PySem.W.findIn K (.ref C_NoFraction) "__class__" = some (some (.builtin "object.__class__")))
    (e5_NoFraction : PySem.W.specialIn K (.builtin "object.__class__") "__get__" = some (some (.builtin "getset_descriptor.__get__")))
    (e6_NoFraction : PySem.W.takesIn K (.builtin "object.__class__") = some true)
    (e7_NoFraction : PySem.W.mroIn K C_NoFraction (.type "object") = some true)
    (q1_NoRope : PySem.W.nsIn K mainGlobals "NoRope" = some (some (.ref C_NoRope)))
    (q2_NoRope : PySem.W.excIn K C_NoRope [.type "ValueError", .type "Exception", .type "BaseException", .type "object"] "ValueError.__new__" = true)
    (q3_NoRope : PySem.W.keepIn K (.ref C_NoRope) = true)
    (q4_NoRope : PySem.W.subIn K (.ref C_NoRope) (.type "BaseException") = some true)
    (q5_NoRope : PySem.W.typeIn K (.ref C_NoRope) = some (.type "type"))
    (e1_NoRope : PySem.W.findIn K (.ref C_NoRope) "__getattribute__" = some (some (.builtin "BaseException.__getattribute__")))
    (e2_NoRope : PySem.W.findIn K (.ref C_NoRope) "__getattr__" = some none)
    (e3_NoRope : PySem.W.hasDictIn K C_NoRope = true)
    (e4_NoRope : PySem.W.findIn K (.ref C_NoRope) "__class__" = some (some (.builtin "object.__class__")))
    (e5_NoRope : PySem.W.specialIn K (.builtin "object.__class__") "__get__" = some (some (.builtin "getset_descriptor.__get__")))
    (e6_NoRope : PySem.W.takesIn K (.builtin "object.__class__") = some true)
    (e7_NoRope : PySem.W.mroIn K C_NoRope (.type "object") = some true)
    (s_NoRope_MeadError : PySem.W.subIn K (.ref C_NoRope) (.ref C_MeadError) = some true)
    (t_NoRope_NoRope : PySem.W.kitOne K (.ref C_NoRope) (.ref C_NoRope) = some true)
    (a_pair_of : PySem.W.nsIn K mainGlobals "pair_of" = some (some (.ref f_pair_of)))
    (l_pair_of : K.lookup f_pair_of = some ⟨oc_pair_of, od_pair_of, .func (PySem.W.fnOf "pair_of" "pair_of" (defArgs s_pair_of) (defBody s_pair_of) (defScope s_pair_of) .none kV_pair_of dc_pair_of pm_pair_of an_pair_of cd_pair_of ct_pair_of), sl_pair_of⟩)
    (c_pair_of : PySem.W.codeIn K cd_pair_of "pair_of" = true)
    (k_pair_of : PySem.W.keepIn K (.ref f_pair_of) = true)
    (a_sides : PySem.W.nsIn K mainGlobals "sides" = some (some (.ref f_sides)))
    (l_sides : K.lookup f_sides = some ⟨oc_sides, od_sides, .func (PySem.W.fnOf "sides" "sides" (defArgs s_sides) (defBody s_sides) (defScope s_sides) .none kV_sides dc_sides pm_sides an_sides cd_sides ct_sides), sl_sides⟩)
    (c_sides : PySem.W.codeIn K cd_sides "sides" = true)
    (k_sides : PySem.W.keepIn K (.ref f_sides) = true)
    (a_ties : PySem.W.nsIn K mainGlobals "ties" = some (some (.ref f_ties)))
    (l_ties : K.lookup f_ties = some ⟨oc_ties, od_ties, .func (PySem.W.fnOf "ties" "ties" (defArgs s_ties) (defBody s_ties) (defScope s_ties) .none kV_ties dc_ties pm_ties an_ties cd_ties ct_ties), sl_ties⟩)
    (c_ties : PySem.W.codeIn K cd_ties "ties" = true)
    (k_ties : PySem.W.keepIn K (.ref f_ties) = true)
    (a_beside : PySem.W.nsIn K mainGlobals "beside" = some (some (.ref f_beside)))
    (l_beside : K.lookup f_beside = some ⟨oc_beside, od_beside, .func (PySem.W.fnOf "beside" "beside" (defArgs s_beside) (defBody s_beside) (defScope s_beside) .none kV_beside dc_beside pm_beside an_beside cd_beside ct_beside), sl_beside⟩)
    (c_beside : PySem.W.codeIn K cd_beside "beside" = true)
    (k_beside : PySem.W.keepIn K (.ref f_beside) = true)
    (a_new_rope : PySem.W.nsIn K mainGlobals "new_rope" = some (some (.ref f_new_rope)))
    (l_new_rope : K.lookup f_new_rope = some ⟨oc_new_rope, od_new_rope, .func (PySem.W.fnOf "new_rope" "new_rope" (defArgs s_new_rope) (defBody s_new_rope) (defScope s_new_rope) .none kV_new_rope dc_new_rope pm_new_rope an_new_rope cd_new_rope ct_new_rope), sl_new_rope⟩)
    (c_new_rope : PySem.W.codeIn K cd_new_rope "new_rope" = true)
    (k_new_rope : PySem.W.keepIn K (.ref f_new_rope) = true)
    (a_lowest : PySem.W.nsIn K mainGlobals "lowest" = some (some (.ref f_lowest)))
    (l_lowest : K.lookup f_lowest = some ⟨oc_lowest, od_lowest, .func (PySem.W.fnOf "lowest" "lowest" (defArgs s_lowest) (defBody s_lowest) (defScope s_lowest) .none kV_lowest dc_lowest pm_lowest an_lowest cd_lowest ct_lowest), sl_lowest⟩)
    (c_lowest : PySem.W.codeIn K cd_lowest "lowest" = true)
    (k_lowest : PySem.W.keepIn K (.ref f_lowest) = true)
    (a_plus : PySem.W.nsIn K mainGlobals "plus" = some (some (.ref f_plus)))
    (l_plus : K.lookup f_plus = some ⟨oc_plus, od_plus, .func (PySem.W.fnOf "plus" "plus" (defArgs s_plus) (defBody s_plus) (defScope s_plus) .none kV_plus dc_plus pm_plus an_plus cd_plus ct_plus), sl_plus⟩)
    (c_plus : PySem.W.codeIn K cd_plus "plus" = true)
    (k_plus : PySem.W.keepIn K (.ref f_plus) = true)
    (a_times : PySem.W.nsIn K mainGlobals "times" = some (some (.ref f_times)))
    (l_times : K.lookup f_times = some ⟨oc_times, od_times, .func (PySem.W.fnOf "times" "times" (defArgs s_times) (defBody s_times) (defScope s_times) .none kV_times dc_times pm_times an_times cd_times ct_times), sl_times⟩)
    (c_times : PySem.W.codeIn K cd_times "times" = true)
    (k_times : PySem.W.keepIn K (.ref f_times) = true)
    (a_over : PySem.W.nsIn K mainGlobals "over" = some (some (.ref f_over)))
    (l_over : K.lookup f_over = some ⟨oc_over, od_over, .func (PySem.W.fnOf "over" "over" (defArgs s_over) (defBody s_over) (defScope s_over) .none kV_over dc_over pm_over an_over cd_over ct_over), sl_over⟩)
    (c_over : PySem.W.codeIn K cd_over "over" = true)
    (k_over : PySem.W.keepIn K (.ref f_over) = true)
    (a_ratio : PySem.W.nsIn K mainGlobals "ratio" = some (some (.ref f_ratio)))
    (l_ratio : K.lookup f_ratio = some ⟨oc_ratio, od_ratio, .func (PySem.W.fnOf "ratio" "ratio" (defArgs s_ratio) (defBody s_ratio) (defScope s_ratio) .none kV_ratio dc_ratio pm_ratio an_ratio cd_ratio ct_ratio), sl_ratio⟩)
    (c_ratio : PySem.W.codeIn K cd_ratio "ratio" = true)
    (k_ratio : PySem.W.keepIn K (.ref f_ratio) = true)
    (a_ratios : PySem.W.nsIn K mainGlobals "ratios" = some (some (.ref f_ratios)))
    (l_ratios : K.lookup f_ratios = some ⟨oc_ratios, od_ratios, .func (PySem.W.fnOf "ratios" "ratios" (defArgs s_ratios) (defBody s_ratios) (defScope s_ratios) .none kV_ratios dc_ratios pm_ratios an_ratios cd_ratios ct_ratios), sl_ratios⟩)
    (c_ratios : PySem.W.codeIn K cd_ratios "ratios" = true)
    (k_ratios : PySem.W.keepIn K (.ref f_ratios) = true)
    (a_turned_ratios : PySem.W.nsIn K mainGlobals "turned_ratios" = some (some (.ref f_turned_ratios)))
    (l_turned_ratios : K.lookup f_turned_ratios = some ⟨oc_turned_ratios, od_turned_ratios, .func (PySem.W.fnOf "turned_ratios" "turned_ratios" (defArgs s_turned_ratios) (defBody s_turned_ratios) (defScope s_turned_ratios) .none kV_turned_ratios dc_turned_ratios pm_turned_ratios an_turned_ratios cd_turned_ratios ct_turned_ratios), sl_turned_ratios⟩)
    (c_turned_ratios : PySem.W.codeIn K cd_turned_ratios "turned_ratios" = true)
    (k_turned_ratios : PySem.W.keepIn K (.ref f_turned_ratios) = true)
    (a_ties_round : PySem.W.nsIn K mainGlobals "ties_round" = some (some (.ref f_ties_round)))
    (l_ties_round : K.lookup f_ties_round = some ⟨oc_ties_round, od_ties_round, .func (PySem.W.fnOf "ties_round" "ties_round" (defArgs s_ties_round) (defBody s_ties_round) (defScope s_ties_round) .none kV_ties_round dc_ties_round pm_ties_round an_ties_round cd_ties_round ct_ties_round), sl_ties_round⟩)
    (c_ties_round : PySem.W.codeIn K cd_ties_round "ties_round" = true)
    (k_ties_round : PySem.W.keepIn K (.ref f_ties_round) = true)
    (a_product_of : PySem.W.nsIn K mainGlobals "product_of" = some (some (.ref f_product_of)))
    (l_product_of : K.lookup f_product_of = some ⟨oc_product_of, od_product_of, .func (PySem.W.fnOf "product_of" "product_of" (defArgs s_product_of) (defBody s_product_of) (defScope s_product_of) .none kV_product_of dc_product_of pm_product_of an_product_of cd_product_of ct_product_of), sl_product_of⟩)
    (c_product_of : PySem.W.codeIn K cd_product_of "product_of" = true)
    (k_product_of : PySem.W.keepIn K (.ref f_product_of) = true)
    (a_laid : PySem.W.nsIn K mainGlobals "laid" = some (some (.ref f_laid)))
    (l_laid : K.lookup f_laid = some ⟨oc_laid, od_laid, .func (PySem.W.fnOf "laid" "laid" (defArgs s_laid) (defBody s_laid) (defScope s_laid) .none kV_laid dc_laid pm_laid an_laid cd_laid ct_laid), sl_laid⟩)
    (c_laid : PySem.W.codeIn K cd_laid "laid" = true)
    (k_laid : PySem.W.keepIn K (.ref f_laid) = true)
    (a_across : PySem.W.nsIn K mainGlobals "across" = some (some (.ref f_across)))
    (l_across : K.lookup f_across = some ⟨oc_across, od_across, .func (PySem.W.fnOf "across" "across" (defArgs s_across) (defBody s_across) (defScope s_across) .none kV_across dc_across pm_across an_across cd_across ct_across), sl_across⟩)
    (c_across : PySem.W.codeIn K cd_across "across" = true)
    (k_across : PySem.W.keepIn K (.ref f_across) = true)
    (a__law_flow : PySem.W.nsIn K mainGlobals "_law_flow" = some (some (.ref f__law_flow)))
    (l__law_flow : K.lookup f__law_flow = some ⟨oc__law_flow, od__law_flow, .func (PySem.W.fnOf "_law_flow" "_law_flow" (defArgs s__law_flow) (defBody s__law_flow) (defScope s__law_flow) .none kV__law_flow dc__law_flow pm__law_flow an__law_flow cd__law_flow ct__law_flow), sl__law_flow⟩)
    (c__law_flow : PySem.W.codeIn K cd__law_flow "_law_flow" = true)
    (k__law_flow : PySem.W.keepIn K (.ref f__law_flow) = true)
    (a__law_whole : PySem.W.nsIn K mainGlobals "_law_whole" = some (some (.ref f__law_whole)))
    (l__law_whole : K.lookup f__law_whole = some ⟨oc__law_whole, od__law_whole, .func (PySem.W.fnOf "_law_whole" "_law_whole" (defArgs s__law_whole) (defBody s__law_whole) (defScope s__law_whole) .none kV__law_whole dc__law_whole pm__law_whole an__law_whole cd__law_whole ct__law_whole), sl__law_whole⟩)
    (c__law_whole : PySem.W.codeIn K cd__law_whole "_law_whole" = true)
    (k__law_whole : PySem.W.keepIn K (.ref f__law_whole) = true)
    (a__law_low : PySem.W.nsIn K mainGlobals "_law_low" = some (some (.ref f__law_low)))
    (l__law_low : K.lookup f__law_low = some ⟨oc__law_low, od__law_low, .func (PySem.W.fnOf "_law_low" "_law_low" (defArgs s__law_low) (defBody s__law_low) (defScope s__law_low) .none kV__law_low dc__law_low pm__law_low an__law_low cd__law_low ct__law_low), sl__law_low⟩)
    (c__law_low : PySem.W.codeIn K cd__law_low "_law_low" = true)
    (k__law_low : PySem.W.keepIn K (.ref f__law_low) = true)
    (a__law_add : PySem.W.nsIn K mainGlobals "_law_add" = some (some (.ref f__law_add)))
    (l__law_add : K.lookup f__law_add = some ⟨oc__law_add, od__law_add, .func (PySem.W.fnOf "_law_add" "_law_add" (defArgs s__law_add) (defBody s__law_add) (defScope s__law_add) .none kV__law_add dc__law_add pm__law_add an__law_add cd__law_add ct__law_add), sl__law_add⟩)
    (c__law_add : PySem.W.codeIn K cd__law_add "_law_add" = true)
    (k__law_add : PySem.W.keepIn K (.ref f__law_add) = true)
    (a__law_mul : PySem.W.nsIn K mainGlobals "_law_mul" = some (some (.ref f__law_mul)))
    (l__law_mul : K.lookup f__law_mul = some ⟨oc__law_mul, od__law_mul, .func (PySem.W.fnOf "_law_mul" "_law_mul" (defArgs s__law_mul) (defBody s__law_mul) (defScope s__law_mul) .none kV__law_mul dc__law_mul pm__law_mul an__law_mul cd__law_mul ct__law_mul), sl__law_mul⟩)
    (c__law_mul : PySem.W.codeIn K cd__law_mul "_law_mul" = true)
    (k__law_mul : PySem.W.keepIn K (.ref f__law_mul) = true)
    (a__law_div : PySem.W.nsIn K mainGlobals "_law_div" = some (some (.ref f__law_div)))
    (l__law_div : K.lookup f__law_div = some ⟨oc__law_div, od__law_div, .func (PySem.W.fnOf "_law_div" "_law_div" (defArgs s__law_div) (defBody s__law_div) (defScope s__law_div) .none kV__law_div dc__law_div pm__law_div an__law_div cd__law_div ct__law_div), sl__law_div⟩)
    (c__law_div : PySem.W.codeIn K cd__law_div "_law_div" = true)
    (k__law_div : PySem.W.keepIn K (.ref f__law_div) = true)
    (a__law_part : PySem.W.nsIn K mainGlobals "_law_part" = some (some (.ref f__law_part)))
    (l__law_part : K.lookup f__law_part = some ⟨oc__law_part, od__law_part, .func (PySem.W.fnOf "_law_part" "_law_part" (defArgs s__law_part) (defBody s__law_part) (defScope s__law_part) .none kV__law_part dc__law_part pm__law_part an__law_part cd__law_part ct__law_part), sl__law_part⟩)
    (c__law_part : PySem.W.codeIn K cd__law_part "_law_part" = true)
    (k__law_part : PySem.W.keepIn K (.ref f__law_part) = true)
    (a__law_size : PySem.W.nsIn K mainGlobals "_law_size" = some (some (.ref f__law_size)))
    (l__law_size : K.lookup f__law_size = some ⟨oc__law_size, od__law_size, .func (PySem.W.fnOf "_law_size" "_law_size" (defArgs s__law_size) (defBody s__law_size) (defScope s__law_size) .none kV__law_size dc__law_size pm__law_size an__law_size cd__law_size ct__law_size), sl__law_size⟩)
    (c__law_size : PySem.W.codeIn K cd__law_size "_law_size" = true)
    (k__law_size : PySem.W.keepIn K (.ref f__law_size) = true)
    (a__law_many : PySem.W.nsIn K mainGlobals "_law_many" = some (some (.ref f__law_many)))
    (l__law_many : K.lookup f__law_many = some ⟨oc__law_many, od__law_many, .func (PySem.W.fnOf "_law_many" "_law_many" (defArgs s__law_many) (defBody s__law_many) (defScope s__law_many) .none kV__law_many dc__law_many pm__law_many an__law_many cd__law_many ct__law_many), sl__law_many⟩)
    (c__law_many : PySem.W.codeIn K cd__law_many "_law_many" = true)
    (k__law_many : PySem.W.keepIn K (.ref f__law_many) = true)
    (a__law_pair : PySem.W.nsIn K mainGlobals "_law_pair" = some (some (.ref f__law_pair)))
    (l__law_pair : K.lookup f__law_pair = some ⟨oc__law_pair, od__law_pair, .func (PySem.W.fnOf "_law_pair" "_law_pair" (defArgs s__law_pair) (defBody s__law_pair) (defScope s__law_pair) .none kV__law_pair dc__law_pair pm__law_pair an__law_pair cd__law_pair ct__law_pair), sl__law_pair⟩)
    (c__law_pair : PySem.W.codeIn K cd__law_pair "_law_pair" = true)
    (k__law_pair : PySem.W.keepIn K (.ref f__law_pair) = true)
    (a__law_ears : PySem.W.nsIn K mainGlobals "_law_ears" = some (some (.ref f__law_ears)))
    (l__law_ears : K.lookup f__law_ears = some ⟨oc__law_ears, od__law_ears, .func (PySem.W.fnOf "_law_ears" "_law_ears" (defArgs s__law_ears) (defBody s__law_ears) (defScope s__law_ears) .none kV__law_ears dc__law_ears pm__law_ears an__law_ears cd__law_ears ct__law_ears), sl__law_ears⟩)
    (c__law_ears : PySem.W.codeIn K cd__law_ears "_law_ears" = true)
    (k__law_ears : PySem.W.keepIn K (.ref f__law_ears) = true)
    (a__law_ropes : PySem.W.nsIn K mainGlobals "_law_ropes" = some (some (.ref f__law_ropes)))
    (l__law_ropes : K.lookup f__law_ropes = some ⟨oc__law_ropes, od__law_ropes, .func (PySem.W.fnOf "_law_ropes" "_law_ropes" (defArgs s__law_ropes) (defBody s__law_ropes) (defScope s__law_ropes) .none kV__law_ropes dc__law_ropes pm__law_ropes an__law_ropes cd__law_ropes ct__law_ropes), sl__law_ropes⟩)
    (c__law_ropes : PySem.W.codeIn K cd__law_ropes "_law_ropes" = true)
    (k__law_ropes : PySem.W.keepIn K (.ref f__law_ropes) = true)
    (a__law_sides : PySem.W.nsIn K mainGlobals "_law_sides" = some (some (.ref f__law_sides)))
    (l__law_sides : K.lookup f__law_sides = some ⟨oc__law_sides, od__law_sides, .func (PySem.W.fnOf "_law_sides" "_law_sides" (defArgs s__law_sides) (defBody s__law_sides) (defScope s__law_sides) .none kV__law_sides dc__law_sides pm__law_sides an__law_sides cd__law_sides ct__law_sides), sl__law_sides⟩)
    (c__law_sides : PySem.W.codeIn K cd__law_sides "_law_sides" = true)
    (k__law_sides : PySem.W.keepIn K (.ref f__law_sides) = true)
    (a__law_ties : PySem.W.nsIn K mainGlobals "_law_ties" = some (some (.ref f__law_ties)))
    (l__law_ties : K.lookup f__law_ties = some ⟨oc__law_ties, od__law_ties, .func (PySem.W.fnOf "_law_ties" "_law_ties" (defArgs s__law_ties) (defBody s__law_ties) (defScope s__law_ties) .none kV__law_ties dc__law_ties pm__law_ties an__law_ties cd__law_ties ct__law_ties), sl__law_ties⟩)
    (c__law_ties : PySem.W.codeIn K cd__law_ties "_law_ties" = true)
    (k__law_ties : PySem.W.keepIn K (.ref f__law_ties) = true)
    (a__law_sized : PySem.W.nsIn K mainGlobals "_law_sized" = some (some (.ref f__law_sized)))
    (l__law_sized : K.lookup f__law_sized = some ⟨oc__law_sized, od__law_sized, .func (PySem.W.fnOf "_law_sized" "_law_sized" (defArgs s__law_sized) (defBody s__law_sized) (defScope s__law_sized) .none kV__law_sized dc__law_sized pm__law_sized an__law_sized cd__law_sized ct__law_sized), sl__law_sized⟩)
    (c__law_sized : PySem.W.codeIn K cd__law_sized "_law_sized" = true)
    (k__law_sized : PySem.W.keepIn K (.ref f__law_sized) = true)
    (a__law_beside : PySem.W.nsIn K mainGlobals "_law_beside" = some (some (.ref f__law_beside)))
    (l__law_beside : K.lookup f__law_beside = some ⟨oc__law_beside, od__law_beside, .func (PySem.W.fnOf "_law_beside" "_law_beside" (defArgs s__law_beside) (defBody s__law_beside) (defScope s__law_beside) .none kV__law_beside dc__law_beside pm__law_beside an__law_beside cd__law_beside ct__law_beside), sl__law_beside⟩)
    (c__law_beside : PySem.W.codeIn K cd__law_beside "_law_beside" = true)
    (k__law_beside : PySem.W.keepIn K (.ref f__law_beside) = true)
    (a__law_turned : PySem.W.nsIn K mainGlobals "_law_turned" = some (some (.ref f__law_turned)))
    (l__law_turned : K.lookup f__law_turned = some ⟨oc__law_turned, od__law_turned, .func (PySem.W.fnOf "_law_turned" "_law_turned" (defArgs s__law_turned) (defBody s__law_turned) (defScope s__law_turned) .none kV__law_turned dc__law_turned pm__law_turned an__law_turned cd__law_turned ct__law_turned), sl__law_turned⟩)
    (c__law_turned : PySem.W.codeIn K cd__law_turned "_law_turned" = true)
    (k__law_turned : PySem.W.keepIn K (.ref f__law_turned) = true)
    (a__law_tuple : PySem.W.nsIn K mainGlobals "_law_tuple" = some (some (.ref f__law_tuple)))
    (l__law_tuple : K.lookup f__law_tuple = some ⟨oc__law_tuple, od__law_tuple, .func (PySem.W.fnOf "_law_tuple" "_law_tuple" (defArgs s__law_tuple) (defBody s__law_tuple) (defScope s__law_tuple) .none kV__law_tuple dc__law_tuple pm__law_tuple an__law_tuple cd__law_tuple ct__law_tuple), sl__law_tuple⟩)
    (c__law_tuple : PySem.W.codeIn K cd__law_tuple "_law_tuple" = true)
    (k__law_tuple : PySem.W.keepIn K (.ref f__law_tuple) = true)
    (a__law_dict : PySem.W.nsIn K mainGlobals "_law_dict" = some (some (.ref f__law_dict)))
    (l__law_dict : K.lookup f__law_dict = some ⟨oc__law_dict, od__law_dict, .func (PySem.W.fnOf "_law_dict" "_law_dict" (defArgs s__law_dict) (defBody s__law_dict) (defScope s__law_dict) .none kV__law_dict dc__law_dict pm__law_dict an__law_dict cd__law_dict ct__law_dict), sl__law_dict⟩)
    (c__law_dict : PySem.W.codeIn K cd__law_dict "_law_dict" = true)
    (k__law_dict : PySem.W.keepIn K (.ref f__law_dict) = true)
    (a__law_ring : PySem.W.nsIn K mainGlobals "_law_ring" = some (some (.ref f__law_ring)))
    (l__law_ring : K.lookup f__law_ring = some ⟨oc__law_ring, od__law_ring, .func (PySem.W.fnOf "_law_ring" "_law_ring" (defArgs s__law_ring) (defBody s__law_ring) (defScope s__law_ring) .none kV__law_ring dc__law_ring pm__law_ring an__law_ring cd__law_ring ct__law_ring), sl__law_ring⟩)
    (c__law_ring : PySem.W.codeIn K cd__law_ring "_law_ring" = true)
    (k__law_ring : PySem.W.keepIn K (.ref f__law_ring) = true)
    (a__law_ratio : PySem.W.nsIn K mainGlobals "_law_ratio" = some (some (.ref f__law_ratio)))
    (l__law_ratio : K.lookup f__law_ratio = some ⟨oc__law_ratio, od__law_ratio, .func (PySem.W.fnOf "_law_ratio" "_law_ratio" (defArgs s__law_ratio) (defBody s__law_ratio) (defScope s__law_ratio) .none kV__law_ratio dc__law_ratio pm__law_ratio an__law_ratio cd__law_ratio ct__law_ratio), sl__law_ratio⟩)
    (c__law_ratio : PySem.W.codeIn K cd__law_ratio "_law_ratio" = true)
    (k__law_ratio : PySem.W.keepIn K (.ref f__law_ratio) = true)
    (a__law_ratios : PySem.W.nsIn K mainGlobals "_law_ratios" = some (some (.ref f__law_ratios)))
    (l__law_ratios : K.lookup f__law_ratios = some ⟨oc__law_ratios, od__law_ratios, .func (PySem.W.fnOf "_law_ratios" "_law_ratios" (defArgs s__law_ratios) (defBody s__law_ratios) (defScope s__law_ratios) .none kV__law_ratios dc__law_ratios pm__law_ratios an__law_ratios cd__law_ratios ct__law_ratios), sl__law_ratios⟩)
    (c__law_ratios : PySem.W.codeIn K cd__law_ratios "_law_ratios" = true)
    (k__law_ratios : PySem.W.keepIn K (.ref f__law_ratios) = true)
    (a__law_wild : PySem.W.nsIn K mainGlobals "_law_wild" = some (some (.ref f__law_wild)))
    (l__law_wild : K.lookup f__law_wild = some ⟨oc__law_wild, od__law_wild, .func (PySem.W.fnOf "_law_wild" "_law_wild" (defArgs s__law_wild) (defBody s__law_wild) (defScope s__law_wild) .none kV__law_wild dc__law_wild pm__law_wild an__law_wild cd__law_wild ct__law_wild), sl__law_wild⟩)
    (c__law_wild : PySem.W.codeIn K cd__law_wild "_law_wild" = true)
    (k__law_wild : PySem.W.keepIn K (.ref f__law_wild) = true)
    (a__law_due : PySem.W.nsIn K mainGlobals "_law_due" = some (some (.ref f__law_due)))
    (l__law_due : K.lookup f__law_due = some ⟨oc__law_due, od__law_due, .func (PySem.W.fnOf "_law_due" "_law_due" (defArgs s__law_due) (defBody s__law_due) (defScope s__law_due) .none kV__law_due dc__law_due pm__law_due an__law_due cd__law_due ct__law_due), sl__law_due⟩)
    (c__law_due : PySem.W.codeIn K cd__law_due "_law_due" = true)
    (k__law_due : PySem.W.keepIn K (.ref f__law_due) = true)
    (a_law : PySem.W.nsIn K mainGlobals "law" = some (some (.ref f_law)))
    (l_law : K.lookup f_law = some ⟨oc_law, od_law, .func (PySem.W.fnOf "law" "law" (defArgs s_law) (defBody s_law) (defScope s_law) .none kV_law dc_law pm_law an_law cd_law ct_law), sl_law⟩)
    (c_law : PySem.W.codeIn K cd_law "law" = true)
    (k_law : PySem.W.keepIn K (.ref f_law) = true)
    (z_abs : PySem.W.nsIn K mainGlobals "abs" = some none)
    (z_bool : PySem.W.nsIn K mainGlobals "bool" = some none)
    (z_dict : PySem.W.nsIn K mainGlobals "dict" = some none)
    (z_int : PySem.W.nsIn K mainGlobals "int" = some none)
    (z_isinstance : PySem.W.nsIn K mainGlobals "isinstance" = some none)
    (z_len : PySem.W.nsIn K mainGlobals "len" = some none)
    (z_list : PySem.W.nsIn K mainGlobals "list" = some none)
    (z_max : PySem.W.nsIn K mainGlobals "max" = some none)
    (z_min : PySem.W.nsIn K mainGlobals "min" = some none)
    (z_range : PySem.W.nsIn K mainGlobals "range" = some none)
    (z_sorted : PySem.W.nsIn K mainGlobals "sorted" = some none)
    (z_tuple : PySem.W.nsIn K mainGlobals "tuple" = some none)
    (z_gcd : PySem.W.nsIn K mainGlobals "gcd" = some (some (.builtin "math.gcd")))
    (z_ONE : PySem.W.nsIn K mainGlobals "ONE" = some (some (.ref o_ONE)))
    (zl_ONE : K.lookup o_ONE = some ⟨.type "tuple", od_ONE, .seq #[.int 1 t0_ONE, .int 1 t1_ONE] n_ONE, sl_ONE⟩)
    : ∃ fd : FuncData, (∀ (s : Shared) (v : Value), BindsTo s fd ⟨[v], []⟩ [("_law_script", v)]) ∧ ∀ base : Heap, K.In base → base.Ns mainGlobals mg → FnOk l.prog w K mg base CX0 8 fa fd ["_law_script"] (sp_law K) := by
  have e := hfa.symm.trans (PySem.W.mg_of X G a_law)
  cases e
  have F_pair_of := fun_mk (st := s_pair_of) l_pair_of c_pair_of k_pair_of
  have F_sides := fun_mk (st := s_sides) l_sides c_sides k_sides
  have F_ties := fun_mk (st := s_ties) l_ties c_ties k_ties
  have F_beside := fun_mk (st := s_beside) l_beside c_beside k_beside
  have F_new_rope := fun_mk (st := s_new_rope) l_new_rope c_new_rope k_new_rope
  have F_lowest := fun_mk (st := s_lowest) l_lowest c_lowest k_lowest
  have F_plus := fun_mk (st := s_plus) l_plus c_plus k_plus
  have F_times := fun_mk (st := s_times) l_times c_times k_times
  have F_over := fun_mk (st := s_over) l_over c_over k_over
  have F_ratio := fun_mk (st := s_ratio) l_ratio c_ratio k_ratio
  have F_ratios := fun_mk (st := s_ratios) l_ratios c_ratios k_ratios
  have F_turned_ratios := fun_mk (st := s_turned_ratios) l_turned_ratios c_turned_ratios k_turned_ratios
  have F_ties_round := fun_mk (st := s_ties_round) l_ties_round c_ties_round k_ties_round
  have F_product_of := fun_mk (st := s_product_of) l_product_of c_product_of k_product_of
  have F_laid := fun_mk (st := s_laid) l_laid c_laid k_laid
  have F_across := fun_mk (st := s_across) l_across c_across k_across
  have F__law_flow := fun_mk (st := s__law_flow) l__law_flow c__law_flow k__law_flow
  have F__law_whole := fun_mk (st := s__law_whole) l__law_whole c__law_whole k__law_whole
  have F__law_low := fun_mk (st := s__law_low) l__law_low c__law_low k__law_low
  have F__law_add := fun_mk (st := s__law_add) l__law_add c__law_add k__law_add
  have F__law_mul := fun_mk (st := s__law_mul) l__law_mul c__law_mul k__law_mul
  have F__law_div := fun_mk (st := s__law_div) l__law_div c__law_div k__law_div
  have F__law_part := fun_mk (st := s__law_part) l__law_part c__law_part k__law_part
  have F__law_size := fun_mk (st := s__law_size) l__law_size c__law_size k__law_size
  have F__law_many := fun_mk (st := s__law_many) l__law_many c__law_many k__law_many
  have F__law_pair := fun_mk (st := s__law_pair) l__law_pair c__law_pair k__law_pair
  have F__law_ears := fun_mk (st := s__law_ears) l__law_ears c__law_ears k__law_ears
  have F__law_ropes := fun_mk (st := s__law_ropes) l__law_ropes c__law_ropes k__law_ropes
  have F__law_sides := fun_mk (st := s__law_sides) l__law_sides c__law_sides k__law_sides
  have F__law_ties := fun_mk (st := s__law_ties) l__law_ties c__law_ties k__law_ties
  have F__law_sized := fun_mk (st := s__law_sized) l__law_sized c__law_sized k__law_sized
  have F__law_beside := fun_mk (st := s__law_beside) l__law_beside c__law_beside k__law_beside
  have F__law_turned := fun_mk (st := s__law_turned) l__law_turned c__law_turned k__law_turned
  have F__law_tuple := fun_mk (st := s__law_tuple) l__law_tuple c__law_tuple k__law_tuple
  have F__law_dict := fun_mk (st := s__law_dict) l__law_dict c__law_dict k__law_dict
  have F__law_ring := fun_mk (st := s__law_ring) l__law_ring c__law_ring k__law_ring
  have F__law_ratio := fun_mk (st := s__law_ratio) l__law_ratio c__law_ratio k__law_ratio
  have F__law_ratios := fun_mk (st := s__law_ratios) l__law_ratios c__law_ratios k__law_ratios
  have F__law_wild := fun_mk (st := s__law_wild) l__law_wild c__law_wild k__law_wild
  have F__law_due := fun_mk (st := s__law_due) l__law_due c__law_due k__law_due
  have F_law := fun_mk (st := s_law) l_law c_law k_law
  let T : Env K mg := { C_MeadError := C_MeadError, c_MeadError := PySem.W.mg_of X G q1_MeadError, x_MeadError := q2_MeadError, k_MeadError := q3_MeadError, bs_MeadError := q4_MeadError, ty_MeadError := q5_MeadError, e_MeadError := ⟨e1_MeadError, e2_MeadError, q4_MeadError, e3_MeadError, e4_MeadError, e5_MeadError, e6_MeadError, e7_MeadError⟩, C_NoFraction := C_NoFraction, c_NoFraction := PySem.W.mg_of X G q1_NoFraction, x_NoFraction := q2_NoFraction, k_NoFraction := q3_NoFraction, bs_NoFraction := q4_NoFraction, ty_NoFraction := q5_NoFraction, e_NoFraction := ⟨e1_NoFraction, e2_NoFraction, q4_NoFraction, e3_NoFraction, e4_NoFraction, e5_NoFraction, e6_NoFraction, e7_NoFraction⟩, C_NoRope := C_NoRope, c_NoRope := PySem.W.mg_of X G q1_NoRope, x_NoRope := q2_NoRope, k_NoRope := q3_NoRope, bs_NoRope := q4_NoRope, ty_NoRope := q5_NoRope, e_NoRope := ⟨e1_NoRope, e2_NoRope, q4_NoRope, e3_NoRope, e4_NoRope, e5_NoRope, e6_NoRope, e7_NoRope⟩, sub_NoRope_MeadError := s_NoRope_MeadError, kit_NoRope_NoRope := t_NoRope_NoRope, a_pair_of := _, fd_pair_of := _, F_pair_of := F_pair_of, g_pair_of := PySem.W.mg_of X G a_pair_of, b_pair_of := F_pair_of.binds (ps := ["a", "b"]) fun _ _ _ _ _ _ us hl => match us, hl with | [_, _], _ => rfl, a_sides := _, fd_sides := _, F_sides := F_sides, g_sides := PySem.W.mg_of X G a_sides, b_sides := F_sides.binds (ps := ["n"]) fun _ _ _ _ _ _ us hl => match us, hl with | [_], _ => rfl, a_ties := _, fd_ties := _, F_ties := F_ties, g_ties := PySem.W.mg_of X G a_ties, b_ties := F_ties.binds (ps := ["n", "cut"]) fun _ _ _ _ _ _ us hl => match us, hl with | [_, _], _ => rfl, a_beside := _, fd_beside := _, F_beside := F_beside, g_beside := PySem.W.mg_of X G a_beside, b_beside := F_beside.binds (ps := ["n", "cut", "a", "b"]) fun _ _ _ _ _ _ us hl => match us, hl with | [_, _, _, _], _ => rfl, a_new_rope := _, fd_new_rope := _, F_new_rope := F_new_rope, g_new_rope := PySem.W.mg_of X G a_new_rope, b_new_rope := F_new_rope.binds (ps := ["n", "cut", "a", "b"]) fun _ _ _ _ _ _ us hl => match us, hl with | [_, _, _, _], _ => rfl, a_lowest := _, fd_lowest := _, F_lowest := F_lowest, g_lowest := PySem.W.mg_of X G a_lowest, b_lowest := F_lowest.binds (ps := ["top", "bottom"]) fun _ _ _ _ _ _ us hl => match us, hl with | [_, _], _ => rfl, a_plus := _, fd_plus := _, F_plus := F_plus, g_plus := PySem.W.mg_of X G a_plus, b_plus := F_plus.binds (ps := ["one", "other"]) fun _ _ _ _ _ _ us hl => match us, hl with | [_, _], _ => rfl, a_times := _, fd_times := _, F_times := F_times, g_times := PySem.W.mg_of X G a_times, b_times := F_times.binds (ps := ["one", "other"]) fun _ _ _ _ _ _ us hl => match us, hl with | [_, _], _ => rfl, a_over := _, fd_over := _, F_over := F_over, g_over := PySem.W.mg_of X G a_over, b_over := F_over.binds (ps := ["one", "other"]) fun _ _ _ _ _ _ us hl => match us, hl with | [_, _], _ => rfl, a_ratio := _, fd_ratio := _, F_ratio := F_ratio, g_ratio := PySem.W.mg_of X G a_ratio, b_ratio := F_ratio.binds (ps := ["n", "cut", "lengths", "a", "b"]) fun _ _ _ _ _ _ us hl => match us, hl with | [_, _, _, _, _], _ => rfl, a_ratios := _, fd_ratios := _, F_ratios := F_ratios, g_ratios := PySem.W.mg_of X G a_ratios, b_ratios := F_ratios.binds (ps := ["n", "cut", "lengths"]) fun _ _ _ _ _ _ us hl => match us, hl with | [_, _, _], _ => rfl, a_turned_ratios := _, fd_turned_ratios := _, F_turned_ratios := F_turned_ratios, g_turned_ratios := PySem.W.mg_of X G a_turned_ratios, b_turned_ratios := F_turned_ratios.binds (ps := ["n", "cut", "rates", "a", "b"]) fun _ _ _ _ _ _ us hl => match us, hl with | [_, _, _, _, _], _ => rfl, a_ties_round := _, fd_ties_round := _, F_ties_round := F_ties_round, g_ties_round := PySem.W.mg_of X G a_ties_round, b_ties_round := F_ties_round.binds (ps := ["n", "cut", "a", "b"]) fun _ _ _ _ _ _ us hl => match us, hl with | [_, _, _, _], _ => rfl, a_product_of := _, fd_product_of := _, F_product_of := F_product_of, g_product_of := PySem.W.mg_of X G a_product_of, b_product_of := F_product_of.binds (ps := ["lengths", "pair"]) fun _ _ _ _ _ _ us hl => match us, hl with | [_, _], _ => rfl, a_laid := _, fd_laid := _, F_laid := F_laid, g_laid := PySem.W.mg_of X G a_laid, b_laid := F_laid.binds (ps := ["n", "cut", "lengths", "a", "b"]) fun _ _ _ _ _ _ us hl => match us, hl with | [_, _, _, _, _], _ => rfl, a_across := _, fd_across := _, F_across := F_across, g_across := PySem.W.mg_of X G a_across, b_across := F_across.binds (ps := ["lengths", "rope", "pair"]) fun _ _ _ _ _ _ us hl => match us, hl with | [_, _, _], _ => rfl, a__law_flow := _, fd__law_flow := _, F__law_flow := F__law_flow, g__law_flow := PySem.W.mg_of X G a__law_flow, b__law_flow := F__law_flow.binds (ps := ["_law_script", "_law_many_here"]) fun _ _ _ _ _ _ us hl => match us, hl with | [_, _], _ => rfl, a__law_whole := _, fd__law_whole := _, F__law_whole := F__law_whole, g__law_whole := PySem.W.mg_of X G a__law_whole, b__law_whole := F__law_whole.binds (ps := ["_law_found"]) fun _ _ _ _ _ _ us hl => match us, hl with | [_], _ => rfl, a__law_low := _, fd__law_low := _, F__law_low := F__law_low, g__law_low := PySem.W.mg_of X G a__law_low, b__law_low := F__law_low.binds (ps := ["_law_top", "_law_bottom"]) fun _ _ _ _ _ _ us hl => match us, hl with | [_, _], _ => rfl, a__law_add := _, fd__law_add := _, F__law_add := F__law_add, g__law_add := PySem.W.mg_of X G a__law_add, b__law_add := F__law_add.binds (ps := ["_law_one", "_law_other"]) fun _ _ _ _ _ _ us hl => match us, hl with | [_, _], _ => rfl, a__law_mul := _, fd__law_mul := _, F__law_mul := F__law_mul, g__law_mul := PySem.W.mg_of X G a__law_mul, b__law_mul := F__law_mul.binds (ps := ["_law_one", "_law_other"]) fun _ _ _ _ _ _ us hl => match us, hl with | [_, _], _ => rfl, a__law_div := _, fd__law_div := _, F__law_div := F__law_div, g__law_div := PySem.W.mg_of X G a__law_div, b__law_div := F__law_div.binds (ps := ["_law_one", "_law_other"]) fun _ _ _ _ _ _ us hl => match us, hl with | [_, _], _ => rfl, a__law_part := _, fd__law_part := _, F__law_part := F__law_part, g__law_part := PySem.W.mg_of X G a__law_part, b__law_part := F__law_part.binds (ps := ["_law_found"]) fun _ _ _ _ _ _ us hl => match us, hl with | [_], _ => rfl, a__law_size := _, fd__law_size := _, F__law_size := F__law_size, g__law_size := PySem.W.mg_of X G a__law_size, b__law_size := F__law_size.binds (ps := ["_law_one"]) fun _ _ _ _ _ _ us hl => match us, hl with | [_], _ => rfl, a__law_many := _, fd__law_many := _, F__law_many := F__law_many, g__law_many := PySem.W.mg_of X G a__law_many, b__law_many := F__law_many.binds (ps := ["_law_row"]) fun _ _ _ _ _ _ us hl => match us, hl with | [_], _ => rfl, a__law_pair := _, fd__law_pair := _, F__law_pair := F__law_pair, g__law_pair := PySem.W.mg_of X G a__law_pair, b__law_pair := F__law_pair.binds (ps := ["_law_a", "_law_b"]) fun _ _ _ _ _ _ us hl => match us, hl with | [_, _], _ => rfl, a__law_ears := _, fd__law_ears := _, F__law_ears := F__law_ears, g__law_ears := PySem.W.mg_of X G a__law_ears, b__law_ears := F__law_ears.binds (ps := ["_law_n", "_law_row"]) fun _ _ _ _ _ _ us hl => match us, hl with | [_, _], _ => rfl, a__law_ropes := _, fd__law_ropes := _, F__law_ropes := F__law_ropes, g__law_ropes := PySem.W.mg_of X G a__law_ropes, b__law_ropes := F__law_ropes.binds (ps := ["_law_ears_here"]) fun _ _ _ _ _ _ us hl => match us, hl with | [_], _ => rfl, a__law_sides := _, fd__law_sides := _, F__law_sides := F__law_sides, g__law_sides := PySem.W.mg_of X G a__law_sides, b__law_sides := F__law_sides.binds (ps := ["_law_n"]) fun _ _ _ _ _ _ us hl => match us, hl with | [_], _ => rfl, a__law_ties := _, fd__law_ties := _, F__law_ties := F__law_ties, g__law_ties := PySem.W.mg_of X G a__law_ties, b__law_ties := F__law_ties.binds (ps := ["_law_n", "_law_cut"]) fun _ _ _ _ _ _ us hl => match us, hl with | [_, _], _ => rfl, a__law_sized := _, fd__law_sized := _, F__law_sized := F__law_sized, g__law_sized := PySem.W.mg_of X G a__law_sized, b__law_sized := F__law_sized.binds (ps := ["_law_all_ties", "_law_row"]) fun _ _ _ _ _ _ us hl => match us, hl with | [_, _], _ => rfl, a__law_beside := _, fd__law_beside := _, F__law_beside := F__law_beside, g__law_beside := PySem.W.mg_of X G a__law_beside, b__law_beside := F__law_beside.binds (ps := ["_law_n", "_law_all_ties", "_law_a", "_law_b"]) fun _ _ _ _ _ _ us hl => match us, hl with | [_, _, _, _], _ => rfl, a__law_turned := _, fd__law_turned := _, F__law_turned := F__law_turned, g__law_turned := PySem.W.mg_of X G a__law_turned, b__law_turned := F__law_turned.binds (ps := ["_law_n", "_law_cut", "_law_rope"]) fun _ _ _ _ _ _ us hl => match us, hl with | [_, _, _], _ => rfl, a__law_tuple := _, fd__law_tuple := _, F__law_tuple := F__law_tuple, g__law_tuple := PySem.W.mg_of X G a__law_tuple, b__law_tuple := F__law_tuple.binds (ps := ["_law_found", "_law_many_here"]) fun _ _ _ _ _ _ us hl => match us, hl with | [_, _], _ => rfl, a__law_dict := _, fd__law_dict := _, F__law_dict := F__law_dict, g__law_dict := PySem.W.mg_of X G a__law_dict, b__law_dict := F__law_dict.binds (ps := ["_law_found", "_law_due_here"]) fun _ _ _ _ _ _ us hl => match us, hl with | [_, _], _ => rfl, a__law_ring := _, fd__law_ring := _, F__law_ring := F__law_ring, g__law_ring := PySem.W.mg_of X G a__law_ring, b__law_ring := F__law_ring.binds (ps := ["_law_n", "_law_cut", "_law_rope"]) fun _ _ _ _ _ _ us hl => match us, hl with | [_, _, _], _ => rfl, a__law_ratio := _, fd__law_ratio := _, F__law_ratio := F__law_ratio, g__law_ratio := PySem.W.mg_of X G a__law_ratio, b__law_ratio := F__law_ratio.binds (ps := ["_law_n", "_law_cut", "_law_sized_here", "_law_rope"]) fun _ _ _ _ _ _ us hl => match us, hl with | [_, _, _, _], _ => rfl, a__law_ratios := _, fd__law_ratios := _, F__law_ratios := F__law_ratios, g__law_ratios := PySem.W.mg_of X G a__law_ratios, b__law_ratios := F__law_ratios.binds (ps := ["_law_n", "_law_cut", "_law_sized_here"]) fun _ _ _ _ _ _ us hl => match us, hl with | [_, _, _], _ => rfl, a__law_wild := _, fd__law_wild := _, F__law_wild := F__law_wild, g__law_wild := PySem.W.mg_of X G a__law_wild, b__law_wild := F__law_wild.binds (ps := ["_law_n", "_law_one"]) fun _ _ _ _ _ _ us hl => match us, hl with | [_, _], _ => rfl, a__law_due := _, fd__law_due := _, F__law_due := F__law_due, g__law_due := PySem.W.mg_of X G a__law_due, b__law_due := F__law_due.binds (ps := ["_law_n", "_law_cut", "_law_rates", "_law_rope"]) fun _ _ _ _ _ _ us hl => match us, hl with | [_, _, _, _], _ => rfl, a_law := _, fd_law := _, F_law := F_law, g_law := PySem.W.mg_of X G a_law, b_law := F_law.binds (ps := ["_law_script"]) fun _ _ _ _ _ _ us hl => match us, hl with | [_], _ => rfl, m_abs := PySem.W.mg_none_of X G z_abs, m_bool := PySem.W.mg_none_of X G z_bool, m_dict := PySem.W.mg_none_of X G z_dict, m_int := PySem.W.mg_none_of X G z_int, m_isinstance := PySem.W.mg_none_of X G z_isinstance, m_len := PySem.W.mg_none_of X G z_len, m_list := PySem.W.mg_none_of X G z_list, m_max := PySem.W.mg_none_of X G z_max, m_min := PySem.W.mg_none_of X G z_min, m_range := PySem.W.mg_none_of X G z_range, m_sorted := PySem.W.mg_none_of X G z_sorted, m_tuple := PySem.W.mg_none_of X G z_tuple, o_ONE := o_ONE, m_ONE := PySem.W.mg_of X G z_ONE, l_ONE := ⟨_, _, _, _, _, zl_ONE⟩, m_gcd := PySem.W.mg_of X G z_gcd }
  exact ⟨PySem.W.fnOf "law" "law" (defArgs s_law) (defBody s_law) (defScope s_law) .none kV_law dc_law pm_law an_law cd_law ct_law, fun s v => .of_eq rfl, fun base _ _ => ok_law T⟩
end
end My
open PySem PySem.W PyProof.Rows
set_option maxRecDepth 100000 in
set_option maxHeartbeats 0 in
theorem PySem.Challenge.cw_postmead_k32_ratios_turned_holds : PySem.Challenge.rw_postmead_k32_ratios_turned.Holds := by
  w_on; o_law; k_head; (case hw => w_witness2)
  k_fill
  refine L2.walk_of (l := PySem.Challenge.rw_postmead_k32_ratios_turned) (n := 63) (k := 8) (x := "_law_script") (CX := fun _ => L2.CX0) (sp := fun w => My.sp_law _) rfl (by decide) rfl ⟨rfl, by decide, by decide⟩ (fun w h Y => PySem.W.kIn_of Y) ?F (fun _ _ a ns hl _ hS => ⟨a, ns, rfl, hS, hl, fun _ => rfl⟩) (fun _ _ _ _ _ h => h)
  case F =>
    intro w mg fa h KX G hmg
    refine' My.all_mk KX G hmg ?q1_MeadError ?q2_MeadError ?q3_MeadError ?q4_MeadError ?q5_MeadError ?e1_MeadError ?e2_MeadError ?e3_MeadError ?e4_MeadError ?e5_MeadError ?e6_MeadError ?e7_MeadError ?q1_NoFraction ?q2_NoFraction ?q3_NoFraction ?q4_NoFraction ?q5_NoFraction ?e1_NoFraction ?e2_NoFraction ?e3_NoFraction ?e4_NoFraction ?e5_NoFraction ?e6_NoFraction ?e7_NoFraction ?q1_NoRope ?q2_NoRope ?q3_NoRope ?q4_NoRope ?q5_NoRope ?e1_NoRope ?e2_NoRope ?e3_NoRope ?e4_NoRope ?e5_NoRope ?e6_NoRope ?e7_NoRope ?s_NoRope_MeadError ?t_NoRope_NoRope ?a_pair_of ?l_pair_of ?c_pair_of ?k_pair_of ?a_sides ?l_sides ?c_sides ?k_sides ?a_ties ?l_ties ?c_ties ?k_ties ?a_beside ?l_beside ?c_beside ?k_beside ?a_new_rope ?l_new_rope ?c_new_rope ?k_new_rope ?a_lowest ?l_lowest ?c_lowest ?k_lowest ?a_plus ?l_plus ?c_plus ?k_plus ?a_times ?l_times ?c_times ?k_times ?a_over ?l_over ?c_over ?k_over ?a_ratio ?l_ratio ?c_ratio ?k_ratio ?a_ratios ?l_ratios ?c_ratios ?k_ratios ?a_turned_ratios ?l_turned_ratios ?c_turned_ratios ?k_turned_ratios ?a_ties_round ?l_ties_round ?c_ties_round ?k_ties_round ?a_product_of ?l_product_of ?c_product_of ?k_product_of ?a_laid ?l_laid ?c_laid ?k_laid ?a_across ?l_across ?c_across ?k_across ?a__law_flow ?l__law_flow ?c__law_flow ?k__law_flow ?a__law_whole ?l__law_whole ?c__law_whole ?k__law_whole ?a__law_low ?l__law_low ?c__law_low ?k__law_low ?a__law_add ?l__law_add ?c__law_add ?k__law_add ?a__law_mul ?l__law_mul ?c__law_mul ?k__law_mul ?a__law_div ?l__law_div ?c__law_div ?k__law_div ?a__law_part ?l__law_part ?c__law_part ?k__law_part ?a__law_size ?l__law_size ?c__law_size ?k__law_size ?a__law_many ?l__law_many ?c__law_many ?k__law_many ?a__law_pair ?l__law_pair ?c__law_pair ?k__law_pair ?a__law_ears ?l__law_ears ?c__law_ears ?k__law_ears ?a__law_ropes ?l__law_ropes ?c__law_ropes ?k__law_ropes ?a__law_sides ?l__law_sides ?c__law_sides ?k__law_sides ?a__law_ties ?l__law_ties ?c__law_ties ?k__law_ties ?a__law_sized ?l__law_sized ?c__law_sized ?k__law_sized ?a__law_beside ?l__law_beside ?c__law_beside ?k__law_beside ?a__law_turned ?l__law_turned ?c__law_turned ?k__law_turned ?a__law_tuple ?l__law_tuple ?c__law_tuple ?k__law_tuple ?a__law_dict ?l__law_dict ?c__law_dict ?k__law_dict ?a__law_ring ?l__law_ring ?c__law_ring ?k__law_ring ?a__law_ratio ?l__law_ratio ?c__law_ratio ?k__law_ratio ?a__law_ratios ?l__law_ratios ?c__law_ratios ?k__law_ratios ?a__law_wild ?l__law_wild ?c__law_wild ?k__law_wild ?a__law_due ?l__law_due ?c__law_due ?k__law_due ?a_law ?l_law ?c_law ?k_law ?z_abs ?z_bool ?z_dict ?z_int ?z_isinstance ?z_len ?z_list ?z_max ?z_min ?z_range ?z_sorted ?z_tuple ?z_gcd ?z_ONE ?zl_ONE
    (case q1_MeadError => k_is)
    (case q2_MeadError => k_exc)
    (case q3_MeadError => k_is)
    (case q4_MeadError => k_is)
    (case q5_MeadError => k_is)
    (case e1_MeadError => k_is)
    (case e2_MeadError => k_is)
    (case e3_MeadError => k_is)
    (case e4_MeadError => k_is)
    (case e5_MeadError => k_is)
    (case e6_MeadError => k_is)
    (case e7_MeadError => k_is)
    (case q1_NoFraction => k_is)
    (case q2_NoFraction => k_exc)
    (case q3_NoFraction => k_is)
    (case q4_NoFraction => k_is)
    (case q5_NoFraction => k_is)
    (case e1_NoFraction => k_is)
    (case e2_NoFraction => k_is)
    (case e3_NoFraction => k_is)
    (case e4_NoFraction => k_is)
    (case e5_NoFraction => k_is)
    (case e6_NoFraction => k_is)
    (case e7_NoFraction => k_is)
    (case q1_NoRope => k_is)
    (case q2_NoRope => k_exc)
    (case q3_NoRope => k_is)
    (case q4_NoRope => k_is)
    (case q5_NoRope => k_is)
    (case e1_NoRope => k_is)
    (case e2_NoRope => k_is)
    (case e3_NoRope => k_is)
    (case e4_NoRope => k_is)
    (case e5_NoRope => k_is)
    (case e6_NoRope => k_is)
    (case e7_NoRope => k_is)
    (case s_NoRope_MeadError => first | rfl | k_is)
    (case t_NoRope_NoRope => first | k_is | rfl)
    (case a_pair_of => k_is)
    (case l_pair_of => k_is)
    (case c_pair_of => k_is)
    (case k_pair_of => k_is)
    (case a_sides => k_is)
    (case l_sides => k_is)
    (case c_sides => k_is)
    (case k_sides => k_is)
    (case a_ties => k_is)
    (case l_ties => k_is)
    (case c_ties => k_is)
    (case k_ties => k_is)
    (case a_beside => k_is)
    (case l_beside => k_is)
    (case c_beside => k_is)
    (case k_beside => k_is)
    (case a_new_rope => k_is)
    (case l_new_rope => k_is)
    (case c_new_rope => k_is)
    (case k_new_rope => k_is)
    (case a_lowest => k_is)
    (case l_lowest => k_is)
    (case c_lowest => k_is)
    (case k_lowest => k_is)
    (case a_plus => k_is)
    (case l_plus => k_is)
    (case c_plus => k_is)
    (case k_plus => k_is)
    (case a_times => k_is)
    (case l_times => k_is)
    (case c_times => k_is)
    (case k_times => k_is)
    (case a_over => k_is)
    (case l_over => k_is)
    (case c_over => k_is)
    (case k_over => k_is)
    (case a_ratio => k_is)
    (case l_ratio => k_is)
    (case c_ratio => k_is)
    (case k_ratio => k_is)
    (case a_ratios => k_is)
    (case l_ratios => k_is)
    (case c_ratios => k_is)
    (case k_ratios => k_is)
    (case a_turned_ratios => k_is)
    (case l_turned_ratios => k_is)
    (case c_turned_ratios => k_is)
    (case k_turned_ratios => k_is)
    (case a_ties_round => k_is)
    (case l_ties_round => k_is)
    (case c_ties_round => k_is)
    (case k_ties_round => k_is)
    (case a_product_of => k_is)
    (case l_product_of => k_is)
    (case c_product_of => k_is)
    (case k_product_of => k_is)
    (case a_laid => k_is)
    (case l_laid => k_is)
    (case c_laid => k_is)
    (case k_laid => k_is)
    (case a_across => k_is)
    (case l_across => k_is)
    (case c_across => k_is)
    (case k_across => k_is)
    (case a__law_flow => k_is)
    (case l__law_flow => k_is)
    (case c__law_flow => k_is)
    (case k__law_flow => k_is)
    (case a__law_whole => k_is)
    (case l__law_whole => k_is)
    (case c__law_whole => k_is)
    (case k__law_whole => k_is)
    (case a__law_low => k_is)
    (case l__law_low => k_is)
    (case c__law_low => k_is)
    (case k__law_low => k_is)
    (case a__law_add => k_is)
    (case l__law_add => k_is)
    (case c__law_add => k_is)
    (case k__law_add => k_is)
    (case a__law_mul => k_is)
    (case l__law_mul => k_is)
    (case c__law_mul => k_is)
    (case k__law_mul => k_is)
    (case a__law_div => k_is)
    (case l__law_div => k_is)
    (case c__law_div => k_is)
    (case k__law_div => k_is)
    (case a__law_part => k_is)
    (case l__law_part => k_is)
    (case c__law_part => k_is)
    (case k__law_part => k_is)
    (case a__law_size => k_is)
    (case l__law_size => k_is)
    (case c__law_size => k_is)
    (case k__law_size => k_is)
    (case a__law_many => k_is)
    (case l__law_many => k_is)
    (case c__law_many => k_is)
    (case k__law_many => k_is)
    (case a__law_pair => k_is)
    (case l__law_pair => k_is)
    (case c__law_pair => k_is)
    (case k__law_pair => k_is)
    (case a__law_ears => k_is)
    (case l__law_ears => k_is)
    (case c__law_ears => k_is)
    (case k__law_ears => k_is)
    (case a__law_ropes => k_is)
    (case l__law_ropes => k_is)
    (case c__law_ropes => k_is)
    (case k__law_ropes => k_is)
    (case a__law_sides => k_is)
    (case l__law_sides => k_is)
    (case c__law_sides => k_is)
    (case k__law_sides => k_is)
    (case a__law_ties => k_is)
    (case l__law_ties => k_is)
    (case c__law_ties => k_is)
    (case k__law_ties => k_is)
    (case a__law_sized => k_is)
    (case l__law_sized => k_is)
    (case c__law_sized => k_is)
    (case k__law_sized => k_is)
    (case a__law_beside => k_is)
    (case l__law_beside => k_is)
    (case c__law_beside => k_is)
    (case k__law_beside => k_is)
    (case a__law_turned => k_is)
    (case l__law_turned => k_is)
    (case c__law_turned => k_is)
    (case k__law_turned => k_is)
    (case a__law_tuple => k_is)
    (case l__law_tuple => k_is)
    (case c__law_tuple => k_is)
    (case k__law_tuple => k_is)
    (case a__law_dict => k_is)
    (case l__law_dict => k_is)
    (case c__law_dict => k_is)
    (case k__law_dict => k_is)
    (case a__law_ring => k_is)
    (case l__law_ring => k_is)
    (case c__law_ring => k_is)
    (case k__law_ring => k_is)
    (case a__law_ratio => k_is)
    (case l__law_ratio => k_is)
    (case c__law_ratio => k_is)
    (case k__law_ratio => k_is)
    (case a__law_ratios => k_is)
    (case l__law_ratios => k_is)
    (case c__law_ratios => k_is)
    (case k__law_ratios => k_is)
    (case a__law_wild => k_is)
    (case l__law_wild => k_is)
    (case c__law_wild => k_is)
    (case k__law_wild => k_is)
    (case a__law_due => k_is)
    (case l__law_due => k_is)
    (case c__law_due => k_is)
    (case k__law_due => k_is)
    (case a_law => k_is)
    (case l_law => k_is)
    (case c_law => k_is)
    (case k_law => k_is)
    (case z_abs => k_is)
    (case z_bool => k_is)
    (case z_dict => k_is)
    (case z_int => k_is)
    (case z_isinstance => k_is)
    (case z_len => k_is)
    (case z_list => k_is)
    (case z_max => k_is)
    (case z_min => k_is)
    (case z_range => k_is)
    (case z_sorted => k_is)
    (case z_tuple => k_is)
    (case z_gcd => k_is)
    (case z_ONE => k_is)
    (case zl_ONE => k_is)
#print axioms PySem.Challenge.cw_postmead_k32_ratios_turned_holds
