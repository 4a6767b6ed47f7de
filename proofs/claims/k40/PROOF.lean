
import PyProof.Rows.All
import HandS.Head0
import HandS.Head1
import HandS.Head2
import HandS.Head3
import HandS.HeadEnd
import HandS.HeadHook1
import Wide.All
import OpenK.AllK
import Wide.FinOn
import HandS.ForMost
import HandS.ForExc
import HandS.Wide
import HandS.Gcd
import HandS.IsInst
import HandS.ExcIs
import HandS.Codes
import HandS.SortRule
import HandS.Deep
import KE.DataMinMax
import HandS.Conv
import HandS.SortInts
import KE.KDictWalk
import KE.KDictCopyH
import KE.KDictOf
import HandS.DictTup
import HandS.DictComp
import KE.SortData
import KE.DataCmp
import HandS.TupAny
import HandS.SortKw
import PyProof.ZipIter
import PyProof.CallType
import PyProof.RangeIter
import PyProof.RulesTry
import HandS.Iter
import HandS.TupLe
import KE.KEqDict
import HandS.Style
import HandS.Zip
import HandS.TryMany
import HandS.TupSets
import HandS.ReplaceList
import HandS.Walk
import PySem.Challenge.RW_postmead_k40_posts_drawn
set_option Elab.async false
set_option linter.all false
set_option maxRecDepth 100000
set_option maxHeartbeats 4000000
namespace My
open PySem PySem.Spec PyProof.Rows L2
/-! ### readings: small steps -/
local macro_rules | `(tactic| walk_at "rd") => `(tactic| repeat (first
  | refine ⟨_, rfl, ?_⟩
  | refine ⟨_, _, rfl, rfl, ?_⟩
  | refine ⟨.inr ⟨by decide, by decide⟩, ?_⟩
  | refine ⟨by decide, ?_⟩))
theorem op_fdivX {X : Cx} : OpR X (binaryOp .FloorDiv) (rI (fun _ j => j ≠ 0 ∧ j.natAbs.log2 < 9000) fun i j => .int (i.fdiv j)) :=
  opI fun _ _ _ _ _ _ _ hc q => floordiv_int hc.1 q (.inl (PyProof.noPylong_of_log2 hc.2))
theorem op_mulU {X : Cx} : OpR X (binaryOp .Mult) (rI IntMulOk fun i j => .int (i * j)) := opI fun _ _ _ _ _ _ _ hc q => mul_int q hc
theorem mulL {i j : Int} (h0 : -(2 ^ 64) < i) (h1 : i < 2 ^ 64) : IntMulOk i j := CMul.ok (.inl ⟨h0, h1⟩)
theorem mulR {i j : Int} (h0 : -(2 ^ 64) < j) (h1 : j < 2 ^ 64) : IntMulOk i j := CMul.ok (.inr ⟨h0, h1⟩)
theorem nd {p : Prop} [Decidable p] (h : ¬ decide p = true) : ¬ p := fun hp => h (decide_eq_true hp)
theorem zc_of {cls : Value} {d : Option Addr} {C : Addr} {oe : Obj} (h : Zc cls d oe) (e : cls = .ref C ∧ d = none) : Zc (.ref C) none oe := by
  obtain ⟨e1, e2⟩ := e
  rw [← e1, ← e2]
  exact h
theorem same_new {H : Hp} {p : Addr} {o : HO} (h : H p = none) : Same H (upd H p o) := fun b x e => by
  rw [upd_ne (ne_of_none e h)]
  exact e
theorem same_put {H H' : Hp} {p : Addr} {o : HO} (s : Same H H') (h : H p = none) : Same H (upd H' p o) := fun b x e => by
  rw [upd_ne (ne_of_none e h)]
  exact s _ _ e
theorem log_small {n b : Nat} (h0 : 0 < b) (h : n < 2 ^ b) (h9 : b ≤ 9000) : n.log2 < 9000 := Nat.lt_of_lt_of_le (PySem.Flt.log2_lt_of h0 h) h9
theorem pss_guard {X : Cx} {b : List Stmt} {t : TS} {P : Prop} (h : P → PSs X b t) : PSs X b (fun D σ H => P ∧ t D σ H) :=
  ⟨fun pins s σ H D I q => (h q.1).run pins s σ H D I q.2⟩
def topS (i : Nat) : Stmt := PySem.Challenge.pw_postmead_k40_posts_drawn.main.body.getD i (.Pass ⟨0, 0, 0, 0⟩)
abbrev s_pair_of : Stmt := topS 15
theorem sc_pair_of : FnScope ["a", "b"] ["a", "b"] (defScope s_pair_of) := ⟨rfl, rfl, rfl, by decide +kernel, rfl, by decide +kernel, by decide +kernel⟩
abbrev s_need_post : Stmt := topS 16
theorem sc_need_post : FnScope ["n", "post"] ["n", "post"] (defScope s_need_post) := ⟨rfl, rfl, rfl, by decide +kernel, rfl, by decide +kernel, by decide +kernel⟩
abbrev s_crosses : Stmt := topS 21
theorem sc_crosses : FnScope ["one", "other", "first", "second", "low", "high"] ["one", "other"] (defScope s_crosses) := ⟨rfl, rfl, rfl, by decide +kernel, rfl, by decide +kernel, by decide +kernel⟩
abbrev s_kept : Stmt := topS 22
theorem sc_kept : FnScope ["n", "ropes", "cut", "a", "b"] ["n", "ropes"] (defScope s_kept) := ⟨rfl, rfl, rfl, by decide +kernel, rfl, by decide +kernel, by decide +kernel⟩
abbrev s_is_cutting : Stmt := topS 23
theorem sc_is_cutting : FnScope ["n", "pairs", "a", "b", "one", "other"] ["n", "pairs"] (defScope s_is_cutting) := ⟨rfl, rfl, rfl, by decide +kernel, rfl, by decide +kernel, by decide +kernel⟩
abbrev s_is_rope : Stmt := topS 24
theorem sc_is_rope : FnScope ["n", "a", "b"] ["n", "a", "b"] (defScope s_is_rope) := ⟨rfl, rfl, rfl, by decide +kernel, rfl, by decide +kernel, by decide +kernel⟩
abbrev s_sides : Stmt := topS 25
theorem sc_sides : FnScope ["n", "post"] ["n"] (defScope s_sides) := ⟨rfl, rfl, rfl, by decide +kernel, rfl, by decide +kernel, by decide +kernel⟩
abbrev s_ties : Stmt := topS 26
theorem sc_ties : FnScope ["n", "cut"] ["n", "cut"] (defScope s_ties) := ⟨rfl, rfl, rfl, by decide +kernel, rfl, by decide +kernel, by decide +kernel⟩
abbrev s_ropes_among : Stmt := topS 30
theorem sc_ropes_among : FnScope ["n", "pairs", "a", "b"] ["n", "pairs"] (defScope s_ropes_among) := ⟨rfl, rfl, rfl, by decide +kernel, rfl, by decide +kernel, by decide +kernel⟩
abbrev s_lowest : Stmt := topS 32
theorem sc_lowest : FnScope ["top", "bottom", "divisor"] ["top", "bottom"] (defScope s_lowest) := ⟨rfl, rfl, rfl, by decide +kernel, rfl, by decide +kernel, by decide +kernel⟩
abbrev s_is_part : Stmt := topS 36
theorem sc_is_part : FnScope ["one"] ["one"] (defScope s_is_part) := ⟨rfl, rfl, rfl, by decide +kernel, rfl, by decide +kernel, by decide +kernel⟩
abbrev s_is_length : Stmt := topS 37
theorem sc_is_length : FnScope ["one"] ["one"] (defScope s_is_length) := ⟨rfl, rfl, rfl, by decide +kernel, rfl, by decide +kernel, by decide +kernel⟩
abbrev s_Mead___init__ : Stmt := inClass (topS 49) 0
theorem sc_Mead___init__ : FnScope ["self", "n", "ropes", "lengths", "cut"] ["self", "n", "ropes", "lengths"] (defScope s_Mead___init__) := ⟨rfl, rfl, rfl, by decide +kernel, rfl, by decide +kernel, by decide +kernel⟩
abbrev s_Mead_posts : Stmt := inClass (topS 49) 1
theorem sc_Mead_posts : FnScope ["self", "n", "_"] ["self"] (defScope s_Mead_posts) := ⟨rfl, rfl, rfl, by decide +kernel, rfl, by decide +kernel, by decide +kernel⟩
abbrev s_Mead_ropes : Stmt := inClass (topS 49) 2
theorem sc_Mead_ropes : FnScope ["self", "_", "cut"] ["self"] (defScope s_Mead_ropes) := ⟨rfl, rfl, rfl, by decide +kernel, rfl, by decide +kernel, by decide +kernel⟩
abbrev s_Mead_lengths : Stmt := inClass (topS 49) 3
theorem sc_Mead_lengths : FnScope ["self", "_", "lengths", "tie"] ["self"] (defScope s_Mead_lengths) := ⟨rfl, rfl, rfl, by decide +kernel, rfl, by decide +kernel, by decide +kernel⟩
abbrev s_Mead_deeds : Stmt := inClass (topS 49) 4
theorem sc_Mead_deeds : FnScope ["self", "deed", "_"] ["self"] (defScope s_Mead_deeds) := ⟨rfl, rfl, rfl, by decide +kernel, rfl, by decide +kernel, by decide +kernel⟩
abbrev s_Mead_set_out : Stmt := inClass (topS 49) 8
theorem sc_Mead_set_out : FnScope ["self", "k", "one", "other", "n", "_", "lengths", "behind"] ["self", "k", "one", "other"] (defScope s_Mead_set_out) := ⟨rfl, rfl, rfl, by decide +kernel, rfl, by decide +kernel, by decide +kernel⟩
abbrev s_Mead_draw : Stmt := inClass (topS 49) 9
theorem sc_Mead_draw : FnScope ["self", "post", "n", "cut", "lengths", "to_ahead", "to_next", "others", "behind", "tie", "rope"] ["self", "post"] (defScope s_Mead_draw) := ⟨rfl, rfl, rfl, by decide +kernel, rfl, by decide +kernel, by decide +kernel⟩
abbrev s_Mead__do : Stmt := inClass (topS 49) 15
theorem sc_Mead__do : FnScope ["self", "deed", "n", "cut", "lengths"] ["self", "deed", "n", "cut", "lengths"] (defScope s_Mead__do) := ⟨rfl, rfl, rfl, by decide +kernel, rfl, by decide +kernel, by decide +kernel⟩
abbrev s_checked : Stmt := topS 50
theorem sc_checked : FnScope ["n", "cut", "lengths", "tie"] ["n", "cut", "lengths"] (defScope s_checked) := ⟨rfl, rfl, rfl, by decide +kernel, rfl, by decide +kernel, by decide +kernel⟩
abbrev s_shifted : Stmt := topS 51
theorem sc_shifted : FnScope ["lengths", "post", "by", "a", "b"] ["lengths", "post", "by"] (defScope s_shifted) := ⟨rfl, rfl, rfl, by decide +kernel, rfl, by decide +kernel, by decide +kernel⟩
abbrev s__law_flow : Stmt := topS 53
theorem sc__law_flow : FnScope ["_law_script", "_law_many_here", "_law_great", "_law_row", "_law_k", "_law_cell", "_law_mixed"] ["_law_script", "_law_many_here"] (defScope s__law_flow) := ⟨rfl, rfl, rfl, by decide +kernel, rfl, by decide +kernel, by decide +kernel⟩
abbrev s__law_whole : Stmt := topS 54
theorem sc__law_whole : FnScope ["_law_found"] ["_law_found"] (defScope s__law_whole) := ⟨rfl, rfl, rfl, by decide +kernel, rfl, by decide +kernel, by decide +kernel⟩
abbrev s__law_low : Stmt := topS 55
theorem sc__law_low : FnScope ["_law_top", "_law_bottom", "_law_one", "_law_other"] ["_law_top", "_law_bottom"] (defScope s__law_low) := ⟨rfl, rfl, rfl, by decide +kernel, rfl, by decide +kernel, by decide +kernel⟩
abbrev s__law_part : Stmt := topS 59
theorem sc__law_part : FnScope ["_law_found"] ["_law_found"] (defScope s__law_part) := ⟨rfl, rfl, rfl, by decide +kernel, rfl, by decide +kernel, by decide +kernel⟩
abbrev s__law_size : Stmt := topS 60
theorem sc__law_size : FnScope ["_law_one"] ["_law_one"] (defScope s__law_size) := ⟨rfl, rfl, rfl, by decide +kernel, rfl, by decide +kernel, by decide +kernel⟩
abbrev s__law_many : Stmt := topS 61
theorem sc__law_many : FnScope ["_law_row"] ["_law_row"] (defScope s__law_many) := ⟨rfl, rfl, rfl, by decide +kernel, rfl, by decide +kernel, by decide +kernel⟩
abbrev s__law_pair : Stmt := topS 62
theorem sc__law_pair : FnScope ["_law_a", "_law_b"] ["_law_a", "_law_b"] (defScope s__law_pair) := ⟨rfl, rfl, rfl, by decide +kernel, rfl, by decide +kernel, by decide +kernel⟩
abbrev s__law_ears : Stmt := topS 63
theorem sc__law_ears : FnScope ["_law_n", "_law_row", "_law_k", "_law_left", "_law_ears_here"] ["_law_n", "_law_row"] (defScope s__law_ears) := ⟨rfl, rfl, rfl, by decide +kernel, rfl, by decide +kernel, by decide +kernel⟩
abbrev s__law_ropes : Stmt := topS 64
theorem sc__law_ropes : FnScope ["_law_ears_here", "_law_ear"] ["_law_ears_here"] (defScope s__law_ropes) := ⟨rfl, rfl, rfl, by decide +kernel, rfl, by decide +kernel, by decide +kernel⟩
abbrev s__law_sides : Stmt := topS 65
theorem sc__law_sides : FnScope ["_law_n", "_law_k"] ["_law_n"] (defScope s__law_sides) := ⟨rfl, rfl, rfl, by decide +kernel, rfl, by decide +kernel, by decide +kernel⟩
abbrev s__law_ties : Stmt := topS 66
theorem sc__law_ties : FnScope ["_law_n", "_law_cut"] ["_law_n", "_law_cut"] (defScope s__law_ties) := ⟨rfl, rfl, rfl, by decide +kernel, rfl, by decide +kernel, by decide +kernel⟩
abbrev s__law_sized : Stmt := topS 67
theorem sc__law_sized : FnScope ["_law_all_ties", "_law_row", "_law_sized_here", "_law_k", "_law_at"] ["_law_all_ties", "_law_row"] (defScope s__law_sized) := ⟨rfl, rfl, rfl, by decide +kernel, rfl, by decide +kernel, by decide +kernel⟩
abbrev s__law_tuple : Stmt := topS 70
theorem sc__law_tuple : FnScope ["_law_found", "_law_many_here", "_law_one"] ["_law_found", "_law_many_here"] (defScope s__law_tuple) := ⟨rfl, rfl, rfl, by decide +kernel, rfl, by decide +kernel, by decide +kernel⟩
abbrev s__law_list : Stmt := topS 71
theorem sc__law_list : FnScope ["_law_found", "_law_many_here", "_law_one"] ["_law_found", "_law_many_here"] (defScope s__law_list) := ⟨rfl, rfl, rfl, by decide +kernel, rfl, by decide +kernel, by decide +kernel⟩
abbrev s__law_dict : Stmt := topS 72
theorem sc__law_dict : FnScope ["_law_found", "_law_due", "_law_tie", "_law_length"] ["_law_found", "_law_due"] (defScope s__law_dict) := ⟨rfl, rfl, rfl, by decide +kernel, rfl, by decide +kernel, by decide +kernel⟩
abbrev s__law_parts : Stmt := topS 73
theorem sc__law_parts : FnScope ["_law_found", "_law_due", "_law_k"] ["_law_found", "_law_due"] (defScope s__law_parts) := ⟨rfl, rfl, rfl, by decide +kernel, rfl, by decide +kernel, by decide +kernel⟩
abbrev s__law_shift : Stmt := topS 76
theorem sc__law_shift : FnScope ["_law_state", "_law_post", "_law_step", "_law_cut", "_law_sized_here", "_law_tie", "_law_length", "_law_a", "_law_b"] ["_law_state", "_law_post", "_law_step"] (defScope s__law_shift) := ⟨rfl, rfl, rfl, by decide +kernel, rfl, by decide +kernel, by decide +kernel⟩
abbrev s__law_set : Stmt := topS 77
theorem sc__law_set : FnScope ["_law_state", "_law_k", "_law_one", "_law_other", "_law_n", "_law_cut", "_law_sized_here", "_law_after"] ["_law_state", "_law_k", "_law_one", "_law_other"] (defScope s__law_set) := ⟨rfl, rfl, rfl, by decide +kernel, rfl, by decide +kernel, by decide +kernel⟩
abbrev s__law_draw : Stmt := topS 78
theorem sc__law_draw : FnScope ["_law_state", "_law_post", "_law_n", "_law_rope", "_law_ends", "_law_told_two", "_law_late", "_law_one"] ["_law_state", "_law_post"] (defScope s__law_draw) := ⟨rfl, rfl, rfl, by decide +kernel, rfl, by decide +kernel, by decide +kernel⟩
abbrev s__law_model : Stmt := topS 79
theorem sc__law_model : FnScope ["_law_state", "_law_deed", "_law_n", "_law_cut", "_law_sized_here", "_law_rope", "_law_late", "_law_fresh", "_law_one"] ["_law_state", "_law_deed"] (defScope s__law_model) := ⟨rfl, rfl, rfl, by decide +kernel, rfl, by decide +kernel, by decide +kernel⟩
abbrev s__law_done : Stmt := topS 80
theorem sc__law_done : FnScope ["_law_mead", "_law_deed"] ["_law_mead", "_law_deed"] (defScope s__law_done) := ⟨rfl, rfl, rfl, by decide +kernel, rfl, by decide +kernel, by decide +kernel⟩
abbrev s__law_answer : Stmt := topS 81
theorem sc__law_answer : FnScope ["_law_found", "_law_due", "_law_deed"] ["_law_found", "_law_due", "_law_deed"] (defScope s__law_answer) := ⟨rfl, rfl, rfl, by decide +kernel, rfl, by decide +kernel, by decide +kernel⟩
abbrev s__law_is_at : Stmt := topS 82
theorem sc__law_is_at : FnScope ["_law_mead", "_law_state", "_law_n", "_law_cut"] ["_law_mead", "_law_state"] (defScope s__law_is_at) := ⟨rfl, rfl, rfl, by decide +kernel, rfl, by decide +kernel, by decide +kernel⟩
abbrev s__law_start : Stmt := topS 83
theorem sc__law_start : FnScope ["_law_row", "_law_n", "_law_cut"] ["_law_row"] (defScope s__law_start) := ⟨rfl, rfl, rfl, by decide +kernel, rfl, by decide +kernel, by decide +kernel⟩
abbrev s__law_wild : Stmt := topS 84
theorem sc__law_wild : FnScope ["_law_n", "_law_one"] ["_law_n", "_law_one"] (defScope s__law_wild) := ⟨rfl, rfl, rfl, by decide +kernel, rfl, by decide +kernel, by decide +kernel⟩
abbrev s__law_pick : Stmt := topS 85
theorem sc__law_pick : FnScope ["_law_state", "_law_one", "_law_other", "_law_wild_here", "_law_held", "_law_free", "_law_post", "_law_rope"] ["_law_state", "_law_one", "_law_other", "_law_wild_here"] (defScope s__law_pick) := ⟨rfl, rfl, rfl, by decide +kernel, rfl, by decide +kernel, by decide +kernel⟩
abbrev s_law : Stmt := topS 86
theorem sc_law : FnScope ["_law_script", "_law_row", "_law_state", "_law_n", "_law_mead", "_law_wish", "_law_late", "_law_answer_here", "_law_found", "_law_again", "_law_k"] ["_law_script"] (defScope s_law) := ⟨rfl, rfl, rfl, by decide +kernel, rfl, by decide +kernel, by decide +kernel⟩
structure Env (K : PySem.W.Frag) (mg : Str → Option Value) where
  C_MeadError : Addr
  c_MeadError : mg "MeadError" = some (.ref C_MeadError)
  x_MeadError : PySem.W.excIn K C_MeadError [.type "ValueError", .type "Exception", .type "BaseException", .type "object"] "ValueError.__new__" = true
  k_MeadError : PySem.W.keepIn K (.ref C_MeadError) = true
  bs_MeadError : PySem.W.subIn K (.ref C_MeadError) (.type "BaseException") = some true
  ty_MeadError : PySem.W.typeIn K (.ref C_MeadError) = some (.type "type")
  e_MeadError : ExcC K C_MeadError
  C_NoFraction : Addr
  c_NoFraction : mg "NoFraction" = some (.ref C_NoFraction)
  x_NoFraction : PySem.W.excIn K C_NoFraction [.type "ValueError", .type "Exception", .type "BaseException", .type "object"] "ValueError.__new__" = true
  k_NoFraction : PySem.W.keepIn K (.ref C_NoFraction) = true
  bs_NoFraction : PySem.W.subIn K (.ref C_NoFraction) (.type "BaseException") = some true
  ty_NoFraction : PySem.W.typeIn K (.ref C_NoFraction) = some (.type "type")
  e_NoFraction : ExcC K C_NoFraction
  C_NoCutting : Addr
  c_NoCutting : mg "NoCutting" = some (.ref C_NoCutting)
  x_NoCutting : PySem.W.excIn K C_NoCutting [.type "ValueError", .type "Exception", .type "BaseException", .type "object"] "ValueError.__new__" = true
  k_NoCutting : PySem.W.keepIn K (.ref C_NoCutting) = true
  bs_NoCutting : PySem.W.subIn K (.ref C_NoCutting) (.type "BaseException") = some true
  ty_NoCutting : PySem.W.typeIn K (.ref C_NoCutting) = some (.type "type")
  e_NoCutting : ExcC K C_NoCutting
  C_NoPost : Addr
  c_NoPost : mg "NoPost" = some (.ref C_NoPost)
  x_NoPost : PySem.W.excIn K C_NoPost [.type "ValueError", .type "Exception", .type "BaseException", .type "object"] "ValueError.__new__" = true
  k_NoPost : PySem.W.keepIn K (.ref C_NoPost) = true
  bs_NoPost : PySem.W.subIn K (.ref C_NoPost) (.type "BaseException") = some true
  ty_NoPost : PySem.W.typeIn K (.ref C_NoPost) = some (.type "type")
  e_NoPost : ExcC K C_NoPost
  C_NoRope : Addr
  c_NoRope : mg "NoRope" = some (.ref C_NoRope)
  x_NoRope : PySem.W.excIn K C_NoRope [.type "ValueError", .type "Exception", .type "BaseException", .type "object"] "ValueError.__new__" = true
  k_NoRope : PySem.W.keepIn K (.ref C_NoRope) = true
  bs_NoRope : PySem.W.subIn K (.ref C_NoRope) (.type "BaseException") = some true
  ty_NoRope : PySem.W.typeIn K (.ref C_NoRope) = some (.type "type")
  e_NoRope : ExcC K C_NoRope
  C_BadLength : Addr
  c_BadLength : mg "BadLength" = some (.ref C_BadLength)
  x_BadLength : PySem.W.excIn K C_BadLength [.type "ValueError", .type "Exception", .type "BaseException", .type "object"] "ValueError.__new__" = true
  k_BadLength : PySem.W.keepIn K (.ref C_BadLength) = true
  bs_BadLength : PySem.W.subIn K (.ref C_BadLength) (.type "BaseException") = some true
  ty_BadLength : PySem.W.typeIn K (.ref C_BadLength) = some (.type "type")
  e_BadLength : ExcC K C_BadLength
  C_Full : Addr
  c_Full : mg "Full" = some (.ref C_Full)
  x_Full : PySem.W.excIn K C_Full [.type "ValueError", .type "Exception", .type "BaseException", .type "object"] "ValueError.__new__" = true
  k_Full : PySem.W.keepIn K (.ref C_Full) = true
  bs_Full : PySem.W.subIn K (.ref C_Full) (.type "BaseException") = some true
  ty_Full : PySem.W.typeIn K (.ref C_Full) = some (.type "type")
  e_Full : ExcC K C_Full
  C_Few : Addr
  c_Few : mg "Few" = some (.ref C_Few)
  x_Few : PySem.W.excIn K C_Few [.type "ValueError", .type "Exception", .type "BaseException", .type "object"] "ValueError.__new__" = true
  k_Few : PySem.W.keepIn K (.ref C_Few) = true
  bs_Few : PySem.W.subIn K (.ref C_Few) (.type "BaseException") = some true
  ty_Few : PySem.W.typeIn K (.ref C_Few) = some (.type "type")
  e_Few : ExcC K C_Few
  C_HasRopes : Addr
  c_HasRopes : mg "HasRopes" = some (.ref C_HasRopes)
  x_HasRopes : PySem.W.excIn K C_HasRopes [.type "ValueError", .type "Exception", .type "BaseException", .type "object"] "ValueError.__new__" = true
  k_HasRopes : PySem.W.keepIn K (.ref C_HasRopes) = true
  bs_HasRopes : PySem.W.subIn K (.ref C_HasRopes) (.type "BaseException") = some true
  ty_HasRopes : PySem.W.typeIn K (.ref C_HasRopes) = some (.type "type")
  e_HasRopes : ExcC K C_HasRopes
  C_NoBack : Addr
  c_NoBack : mg "NoBack" = some (.ref C_NoBack)
  x_NoBack : PySem.W.excIn K C_NoBack [.type "ValueError", .type "Exception", .type "BaseException", .type "object"] "ValueError.__new__" = true
  k_NoBack : PySem.W.keepIn K (.ref C_NoBack) = true
  bs_NoBack : PySem.W.subIn K (.ref C_NoBack) (.type "BaseException") = some true
  ty_NoBack : PySem.W.typeIn K (.ref C_NoBack) = some (.type "type")
  e_NoBack : ExcC K C_NoBack
  sub_NoPost_NoPost : PySem.W.subIn K (.ref C_NoPost) (.ref C_NoPost) = some true
  sub_NoFraction_NoFraction : PySem.W.subIn K (.ref C_NoFraction) (.ref C_NoFraction) = some true
  sub_Full_Full : PySem.W.subIn K (.ref C_Full) (.ref C_Full) = some true
  sub_Few_Few : PySem.W.subIn K (.ref C_Few) (.ref C_Few) = some true
  sub_HasRopes_HasRopes : PySem.W.subIn K (.ref C_HasRopes) (.ref C_HasRopes) = some true
  nosub_NoFraction_NoPost : PySem.W.subIn K (.ref C_NoFraction) (.ref C_NoPost) = some false
  nosub_NoFraction_NoRope : PySem.W.subIn K (.ref C_NoFraction) (.ref C_NoRope) = some false
  nosub_Full_NoPost : PySem.W.subIn K (.ref C_Full) (.ref C_NoPost) = some false
  nosub_Full_NoRope : PySem.W.subIn K (.ref C_Full) (.ref C_NoRope) = some false
  nosub_Full_NoFraction : PySem.W.subIn K (.ref C_Full) (.ref C_NoFraction) = some false
  nosub_Few_NoPost : PySem.W.subIn K (.ref C_Few) (.ref C_NoPost) = some false
  nosub_Few_NoRope : PySem.W.subIn K (.ref C_Few) (.ref C_NoRope) = some false
  nosub_Few_NoFraction : PySem.W.subIn K (.ref C_Few) (.ref C_NoFraction) = some false
  nosub_Few_Full : PySem.W.subIn K (.ref C_Few) (.ref C_Full) = some false
  nosub_HasRopes_NoPost : PySem.W.subIn K (.ref C_HasRopes) (.ref C_NoPost) = some false
  nosub_HasRopes_NoRope : PySem.W.subIn K (.ref C_HasRopes) (.ref C_NoRope) = some false
  nosub_HasRopes_NoFraction : PySem.W.subIn K (.ref C_HasRopes) (.ref C_NoFraction) = some false
  nosub_HasRopes_Full : PySem.W.subIn K (.ref C_HasRopes) (.ref C_Full) = some false
  nosub_HasRopes_Few : PySem.W.subIn K (.ref C_HasRopes) (.ref C_Few) = some false
  a_pair_of : Addr
  fd_pair_of : FuncData
  F_pair_of : Fun K "pair_of" "pair_of" s_pair_of a_pair_of fd_pair_of
  g_pair_of : mg "pair_of" = some (.ref a_pair_of)
  b_pair_of : Binds K fd_pair_of ["a", "b"] []
  a_need_post : Addr
  fd_need_post : FuncData
  F_need_post : Fun K "need_post" "need_post" s_need_post a_need_post fd_need_post
  g_need_post : mg "need_post" = some (.ref a_need_post)
  b_need_post : Binds K fd_need_post ["n", "post"] []
  a_crosses : Addr
  fd_crosses : FuncData
  F_crosses : Fun K "crosses" "crosses" s_crosses a_crosses fd_crosses
  g_crosses : mg "crosses" = some (.ref a_crosses)
  b_crosses : Binds K fd_crosses ["one", "other"] []
  a_kept : Addr
  fd_kept : FuncData
  F_kept : Fun K "kept" "kept" s_kept a_kept fd_kept
  g_kept : mg "kept" = some (.ref a_kept)
  b_kept : Binds K fd_kept ["n", "ropes"] []
  a_is_cutting : Addr
  fd_is_cutting : FuncData
  F_is_cutting : Fun K "is_cutting" "is_cutting" s_is_cutting a_is_cutting fd_is_cutting
  g_is_cutting : mg "is_cutting" = some (.ref a_is_cutting)
  b_is_cutting : Binds K fd_is_cutting ["n", "pairs"] []
  a_is_rope : Addr
  fd_is_rope : FuncData
  F_is_rope : Fun K "is_rope" "is_rope" s_is_rope a_is_rope fd_is_rope
  g_is_rope : mg "is_rope" = some (.ref a_is_rope)
  b_is_rope : Binds K fd_is_rope ["n", "a", "b"] []
  a_sides : Addr
  fd_sides : FuncData
  F_sides : Fun K "sides" "sides" s_sides a_sides fd_sides
  g_sides : mg "sides" = some (.ref a_sides)
  b_sides : Binds K fd_sides ["n"] []
  a_ties : Addr
  fd_ties : FuncData
  F_ties : Fun K "ties" "ties" s_ties a_ties fd_ties
  g_ties : mg "ties" = some (.ref a_ties)
  b_ties : Binds K fd_ties ["n", "cut"] []
  a_ropes_among : Addr
  fd_ropes_among : FuncData
  F_ropes_among : Fun K "ropes_among" "ropes_among" s_ropes_among a_ropes_among fd_ropes_among
  g_ropes_among : mg "ropes_among" = some (.ref a_ropes_among)
  b_ropes_among : Binds K fd_ropes_among ["n", "pairs"] []
  a_lowest : Addr
  fd_lowest : FuncData
  F_lowest : Fun K "lowest" "lowest" s_lowest a_lowest fd_lowest
  g_lowest : mg "lowest" = some (.ref a_lowest)
  b_lowest : Binds K fd_lowest ["top", "bottom"] []
  a_is_part : Addr
  fd_is_part : FuncData
  F_is_part : Fun K "is_part" "is_part" s_is_part a_is_part fd_is_part
  g_is_part : mg "is_part" = some (.ref a_is_part)
  b_is_part : Binds K fd_is_part ["one"] []
  a_is_length : Addr
  fd_is_length : FuncData
  F_is_length : Fun K "is_length" "is_length" s_is_length a_is_length fd_is_length
  g_is_length : mg "is_length" = some (.ref a_is_length)
  b_is_length : Binds K fd_is_length ["one"] []
  a_Mead___init__ : Addr
  fd_Mead___init__ : FuncData
  F_Mead___init__ : Fun K "__init__" "Mead.__init__" s_Mead___init__ a_Mead___init__ fd_Mead___init__
  b_Mead___init__ : Binds K fd_Mead___init__ ["self", "n", "ropes", "lengths"] []
  a_Mead_posts : Addr
  fd_Mead_posts : FuncData
  F_Mead_posts : Fun K "posts" "Mead.posts" s_Mead_posts a_Mead_posts fd_Mead_posts
  b_Mead_posts : Binds K fd_Mead_posts ["self"] []
  a_Mead_ropes : Addr
  fd_Mead_ropes : FuncData
  F_Mead_ropes : Fun K "ropes" "Mead.ropes" s_Mead_ropes a_Mead_ropes fd_Mead_ropes
  b_Mead_ropes : Binds K fd_Mead_ropes ["self"] []
  a_Mead_lengths : Addr
  fd_Mead_lengths : FuncData
  F_Mead_lengths : Fun K "lengths" "Mead.lengths" s_Mead_lengths a_Mead_lengths fd_Mead_lengths
  b_Mead_lengths : Binds K fd_Mead_lengths ["self"] []
  a_Mead_deeds : Addr
  fd_Mead_deeds : FuncData
  F_Mead_deeds : Fun K "deeds" "Mead.deeds" s_Mead_deeds a_Mead_deeds fd_Mead_deeds
  b_Mead_deeds : Binds K fd_Mead_deeds ["self"] []
  a_Mead_set_out : Addr
  fd_Mead_set_out : FuncData
  F_Mead_set_out : Fun K "set_out" "Mead.set_out" s_Mead_set_out a_Mead_set_out fd_Mead_set_out
  b_Mead_set_out : Binds K fd_Mead_set_out ["self", "k", "one", "other"] []
  a_Mead_draw : Addr
  fd_Mead_draw : FuncData
  F_Mead_draw : Fun K "draw" "Mead.draw" s_Mead_draw a_Mead_draw fd_Mead_draw
  b_Mead_draw : Binds K fd_Mead_draw ["self", "post"] []
  a_Mead__do : Addr
  fd_Mead__do : FuncData
  F_Mead__do : Fun K "_do" "Mead._do" s_Mead__do a_Mead__do fd_Mead__do
  b_Mead__do : Binds K fd_Mead__do ["self", "deed", "n", "cut", "lengths"] []
  a_checked : Addr
  fd_checked : FuncData
  F_checked : Fun K "checked" "checked" s_checked a_checked fd_checked
  g_checked : mg "checked" = some (.ref a_checked)
  b_checked : Binds K fd_checked ["n", "cut", "lengths"] []
  a_shifted : Addr
  fd_shifted : FuncData
  F_shifted : Fun K "shifted" "shifted" s_shifted a_shifted fd_shifted
  g_shifted : mg "shifted" = some (.ref a_shifted)
  b_shifted : Binds K fd_shifted ["lengths", "post", "by"] []
  a__law_flow : Addr
  fd__law_flow : FuncData
  F__law_flow : Fun K "_law_flow" "_law_flow" s__law_flow a__law_flow fd__law_flow
  g__law_flow : mg "_law_flow" = some (.ref a__law_flow)
  b__law_flow : Binds K fd__law_flow ["_law_script", "_law_many_here"] []
  a__law_whole : Addr
  fd__law_whole : FuncData
  F__law_whole : Fun K "_law_whole" "_law_whole" s__law_whole a__law_whole fd__law_whole
  g__law_whole : mg "_law_whole" = some (.ref a__law_whole)
  b__law_whole : Binds K fd__law_whole ["_law_found"] []
  a__law_low : Addr
  fd__law_low : FuncData
  F__law_low : Fun K "_law_low" "_law_low" s__law_low a__law_low fd__law_low
  g__law_low : mg "_law_low" = some (.ref a__law_low)
  b__law_low : Binds K fd__law_low ["_law_top", "_law_bottom"] []
  a__law_part : Addr
  fd__law_part : FuncData
  F__law_part : Fun K "_law_part" "_law_part" s__law_part a__law_part fd__law_part
  g__law_part : mg "_law_part" = some (.ref a__law_part)
  b__law_part : Binds K fd__law_part ["_law_found"] []
  a__law_size : Addr
  fd__law_size : FuncData
  F__law_size : Fun K "_law_size" "_law_size" s__law_size a__law_size fd__law_size
  g__law_size : mg "_law_size" = some (.ref a__law_size)
  b__law_size : Binds K fd__law_size ["_law_one"] []
  a__law_many : Addr
  fd__law_many : FuncData
  F__law_many : Fun K "_law_many" "_law_many" s__law_many a__law_many fd__law_many
  g__law_many : mg "_law_many" = some (.ref a__law_many)
  b__law_many : Binds K fd__law_many ["_law_row"] []
  a__law_pair : Addr
  fd__law_pair : FuncData
  F__law_pair : Fun K "_law_pair" "_law_pair" s__law_pair a__law_pair fd__law_pair
  g__law_pair : mg "_law_pair" = some (.ref a__law_pair)
  b__law_pair : Binds K fd__law_pair ["_law_a", "_law_b"] []
  a__law_ears : Addr
  fd__law_ears : FuncData
  F__law_ears : Fun K "_law_ears" "_law_ears" s__law_ears a__law_ears fd__law_ears
  g__law_ears : mg "_law_ears" = some (.ref a__law_ears)
  b__law_ears : Binds K fd__law_ears ["_law_n", "_law_row"] []
  a__law_ropes : Addr
  fd__law_ropes : FuncData
  F__law_ropes : Fun K "_law_ropes" "_law_ropes" s__law_ropes a__law_ropes fd__law_ropes
  g__law_ropes : mg "_law_ropes" = some (.ref a__law_ropes)
  b__law_ropes : Binds K fd__law_ropes ["_law_ears_here"] []
  a__law_sides : Addr
  fd__law_sides : FuncData
  F__law_sides : Fun K "_law_sides" "_law_sides" s__law_sides a__law_sides fd__law_sides
  g__law_sides : mg "_law_sides" = some (.ref a__law_sides)
  b__law_sides : Binds K fd__law_sides ["_law_n"] []
  a__law_ties : Addr
  fd__law_ties : FuncData
  F__law_ties : Fun K "_law_ties" "_law_ties" s__law_ties a__law_ties fd__law_ties
  g__law_ties : mg "_law_ties" = some (.ref a__law_ties)
  b__law_ties : Binds K fd__law_ties ["_law_n", "_law_cut"] []
  a__law_sized : Addr
  fd__law_sized : FuncData
  F__law_sized : Fun K "_law_sized" "_law_sized" s__law_sized a__law_sized fd__law_sized
  g__law_sized : mg "_law_sized" = some (.ref a__law_sized)
  b__law_sized : Binds K fd__law_sized ["_law_all_ties", "_law_row"] []
  a__law_tuple : Addr
  fd__law_tuple : FuncData
  F__law_tuple : Fun K "_law_tuple" "_law_tuple" s__law_tuple a__law_tuple fd__law_tuple
  g__law_tuple : mg "_law_tuple" = some (.ref a__law_tuple)
  b__law_tuple : Binds K fd__law_tuple ["_law_found", "_law_many_here"] []
  a__law_list : Addr
  fd__law_list : FuncData
  F__law_list : Fun K "_law_list" "_law_list" s__law_list a__law_list fd__law_list
  g__law_list : mg "_law_list" = some (.ref a__law_list)
  b__law_list : Binds K fd__law_list ["_law_found", "_law_many_here"] []
  a__law_dict : Addr
  fd__law_dict : FuncData
  F__law_dict : Fun K "_law_dict" "_law_dict" s__law_dict a__law_dict fd__law_dict
  g__law_dict : mg "_law_dict" = some (.ref a__law_dict)
  b__law_dict : Binds K fd__law_dict ["_law_found", "_law_due"] []
  a__law_parts : Addr
  fd__law_parts : FuncData
  F__law_parts : Fun K "_law_parts" "_law_parts" s__law_parts a__law_parts fd__law_parts
  g__law_parts : mg "_law_parts" = some (.ref a__law_parts)
  b__law_parts : Binds K fd__law_parts ["_law_found", "_law_due"] []
  a__law_shift : Addr
  fd__law_shift : FuncData
  F__law_shift : Fun K "_law_shift" "_law_shift" s__law_shift a__law_shift fd__law_shift
  g__law_shift : mg "_law_shift" = some (.ref a__law_shift)
  b__law_shift : Binds K fd__law_shift ["_law_state", "_law_post", "_law_step"] []
  a__law_set : Addr
  fd__law_set : FuncData
  F__law_set : Fun K "_law_set" "_law_set" s__law_set a__law_set fd__law_set
  g__law_set : mg "_law_set" = some (.ref a__law_set)
  b__law_set : Binds K fd__law_set ["_law_state", "_law_k", "_law_one", "_law_other"] []
  a__law_draw : Addr
  fd__law_draw : FuncData
  F__law_draw : Fun K "_law_draw" "_law_draw" s__law_draw a__law_draw fd__law_draw
  g__law_draw : mg "_law_draw" = some (.ref a__law_draw)
  b__law_draw : Binds K fd__law_draw ["_law_state", "_law_post"] []
  a__law_model : Addr
  fd__law_model : FuncData
  F__law_model : Fun K "_law_model" "_law_model" s__law_model a__law_model fd__law_model
  g__law_model : mg "_law_model" = some (.ref a__law_model)
  b__law_model : Binds K fd__law_model ["_law_state", "_law_deed"] []
  a__law_done : Addr
  fd__law_done : FuncData
  F__law_done : Fun K "_law_done" "_law_done" s__law_done a__law_done fd__law_done
  g__law_done : mg "_law_done" = some (.ref a__law_done)
  b__law_done : Binds K fd__law_done ["_law_mead", "_law_deed"] []
  a__law_answer : Addr
  fd__law_answer : FuncData
  F__law_answer : Fun K "_law_answer" "_law_answer" s__law_answer a__law_answer fd__law_answer
  g__law_answer : mg "_law_answer" = some (.ref a__law_answer)
  b__law_answer : Binds K fd__law_answer ["_law_found", "_law_due", "_law_deed"] []
  a__law_is_at : Addr
  fd__law_is_at : FuncData
  F__law_is_at : Fun K "_law_is_at" "_law_is_at" s__law_is_at a__law_is_at fd__law_is_at
  g__law_is_at : mg "_law_is_at" = some (.ref a__law_is_at)
  b__law_is_at : Binds K fd__law_is_at ["_law_mead", "_law_state"] []
  a__law_start : Addr
  fd__law_start : FuncData
  F__law_start : Fun K "_law_start" "_law_start" s__law_start a__law_start fd__law_start
  g__law_start : mg "_law_start" = some (.ref a__law_start)
  b__law_start : Binds K fd__law_start ["_law_row"] []
  a__law_wild : Addr
  fd__law_wild : FuncData
  F__law_wild : Fun K "_law_wild" "_law_wild" s__law_wild a__law_wild fd__law_wild
  g__law_wild : mg "_law_wild" = some (.ref a__law_wild)
  b__law_wild : Binds K fd__law_wild ["_law_n", "_law_one"] []
  a__law_pick : Addr
  fd__law_pick : FuncData
  F__law_pick : Fun K "_law_pick" "_law_pick" s__law_pick a__law_pick fd__law_pick
  g__law_pick : mg "_law_pick" = some (.ref a__law_pick)
  b__law_pick : Binds K fd__law_pick ["_law_state", "_law_one", "_law_other", "_law_wild_here"] []
  a_law : Addr
  fd_law : FuncData
  F_law : Fun K "law" "law" s_law a_law fd_law
  g_law : mg "law" = some (.ref a_law)
  b_law : Binds K fd_law ["_law_script"] []
  C_Mead : Addr
  c_Mead : mg "Mead" = some (.ref C_Mead)
  cl_Mead : Cls K C_Mead
  mk_Mead : Mk K C_Mead a_Mead___init__
  na_Mead__state : NoAttr K C_Mead "_state"
  na_Mead__standing : NoAttr K C_Mead "_standing"
  na_Mead__undone : NoAttr K C_Mead "_undone"
  me_Mead_posts : Meth K C_Mead "posts" a_Mead_posts
  me_Mead_ropes : Meth K C_Mead "ropes" a_Mead_ropes
  me_Mead_lengths : Meth K C_Mead "lengths" a_Mead_lengths
  me_Mead_deeds : Meth K C_Mead "deeds" a_Mead_deeds
  me_Mead_set_out : Meth K C_Mead "set_out" a_Mead_set_out
  me_Mead_draw : Meth K C_Mead "draw" a_Mead_draw
  me_Mead__do : Meth K C_Mead "_do" a_Mead__do
  m_abs : mg "abs" = none
  m_all : mg "all" = none
  m_any : mg "any" = none
  m_bool : mg "bool" = none
  m_dict : mg "dict" = none
  m_int : mg "int" = none
  m_isinstance : mg "isinstance" = none
  m_len : mg "len" = none
  m_list : mg "list" = none
  m_max : mg "max" = none
  m_min : mg "min" = none
  m_range : mg "range" = none
  m_set : mg "set" = none
  m_sorted : mg "sorted" = none
  m_tuple : mg "tuple" = none
  tk_LEAST_POSTS : Tok
  m_LEAST_POSTS : mg "LEAST_POSTS" = some (.int 3 tk_LEAST_POSTS)
  tk_MOST_POSTS : Tok
  m_MOST_POSTS : mg "MOST_POSTS" = some (.int 12 tk_MOST_POSTS)
  m_combinations : mg "combinations" = some (.type "itertools.combinations")
  m_gcd : mg "gcd" = some (.builtin "math.gcd")
def nthM {α : Type} : List α → Nat → Option α
  | [], _ => none
  | a :: _, 0 => some a
  | _ :: l, n + 1 => nthM l n
theorem nthM_map {α β : Type} {u v : α → β} : ∀ {l : List α} {j : Nat} {d : α}, l.map u = l.map v → nthM l j = some d → u d = v d
  | a :: l, 0, d, e, h => by cases h; exact (List.cons.inj e).1
  | a :: l, j + 1, d, e, h => nthM_map (l := l) (List.cons.inj e).2 h
def faM0 (K : PySem.W.Frag) : Bool := decide (PySem.W.subIn K (.ref (He.ga K "MeadError")) (.type "BaseException") = some true)
def faM1 (K : PySem.W.Frag) : Bool := He.eqO (PySem.W.findIn K (.ref (He.ga K "MeadError")) "__getattribute__") (some (some (.builtin "BaseException.__getattribute__")))
def faM2 (K : PySem.W.Frag) : Bool := He.eqO (PySem.W.findIn K (.ref (He.ga K "MeadError")) "__getattr__") (some none)
def faM3 (K : PySem.W.Frag) : Bool := PySem.W.hasDictIn K (He.ga K "MeadError")
def faM4 (K : PySem.W.Frag) : Bool := He.eqO (PySem.W.findIn K (.ref (He.ga K "MeadError")) "__class__") (some (some (.builtin "object.__class__")))
def faM5 (K : PySem.W.Frag) : Bool := He.eqO (PySem.W.specialIn K (.builtin "object.__class__") "__get__") (some (some (.builtin "getset_descriptor.__get__")))
def faM6 (K : PySem.W.Frag) : Bool := decide (PySem.W.takesIn K (.builtin "object.__class__") = some true)
def faM7 (K : PySem.W.Frag) : Bool := decide (PySem.W.mroIn K (He.ga K "MeadError") (.type "object") = some true)
def faM8 (K : PySem.W.Frag) : Bool := He.eqO (PySem.W.nsIn K mainGlobals "MeadError") (some (some (.ref (He.ga K "MeadError"))))
def faM9 (K : PySem.W.Frag) : Bool := PySem.W.excIn K (He.ga K "MeadError") [.type "ValueError", .type "Exception", .type "BaseException", .type "object"] "ValueError.__new__"
def faM10 (K : PySem.W.Frag) : Bool := PySem.W.keepIn K (.ref (He.ga K "MeadError"))
def faM11 (K : PySem.W.Frag) : Bool := decide (PySem.W.typeIn K (.ref (He.ga K "MeadError")) = some (.type "type"))
def faM12 (K : PySem.W.Frag) : Bool := decide (PySem.W.subIn K (.ref (He.ga K "NoFraction")) (.type "BaseException") = some true)
def faM13 (K : PySem.W.Frag) : Bool := He.eqO (PySem.W.findIn K (.ref (He.ga K "NoFraction")) "__getattribute__") (some (some (.builtin "BaseException.__getattribute__")))
def faM14 (K : PySem.W.Frag) : Bool := He.eqO (PySem.W.findIn K (.ref (He.ga K "NoFraction")) "__getattr__") (some none)
def faM15 (K : PySem.W.Frag) : Bool := PySem.W.hasDictIn K (He.ga K "NoFraction")
def faM16 (K : PySem.W.Frag) : Bool := He.eqO (PySem.W.findIn K (.ref (He.ga K "NoFraction")) "__class__") (some (some (.builtin "object.__class__")))
def faM17 (K : PySem.W.Frag) : Bool := He.eqO (PySem.W.specialIn K (.builtin "object.__class__") "__get__") (some (some (.builtin "getset_descriptor.__get__")))
def faM18 (K : PySem.W.Frag) : Bool := decide (PySem.W.takesIn K (.builtin "object.__class__") = some true)
def faM19 (K : PySem.W.Frag) : Bool := decide (PySem.W.mroIn K (He.ga K "NoFraction") (.type "object") = some true)
def faM20 (K : PySem.W.Frag) : Bool := He.eqO (PySem.W.nsIn K mainGlobals "NoFraction") (some (some (.ref (He.ga K "NoFraction"))))
def faM21 (K : PySem.W.Frag) : Bool := PySem.W.excIn K (He.ga K "NoFraction") [.type "ValueError", .type "Exception", .type "BaseException", .type "object"] "ValueError.__new__"
def faM22 (K : PySem.W.Frag) : Bool := PySem.W.keepIn K (.ref (He.ga K "NoFraction"))
def faM23 (K : PySem.W.Frag) : Bool := decide (PySem.W.typeIn K (.ref (He.ga K "NoFraction")) = some (.type "type"))
def faM24 (K : PySem.W.Frag) : Bool := decide (PySem.W.subIn K (.ref (He.ga K "NoCutting")) (.type "BaseException") = some true)
def faM25 (K : PySem.W.Frag) : Bool := He.eqO (PySem.W.findIn K (.ref (He.ga K "NoCutting")) "__getattribute__") (some (some (.builtin "BaseException.__getattribute__")))
def faM26 (K : PySem.W.Frag) : Bool := He.eqO (PySem.W.findIn K (.ref (He.ga K "NoCutting")) "__getattr__") (some none)
def faM27 (K : PySem.W.Frag) : Bool := PySem.W.hasDictIn K (He.ga K "NoCutting")
def faM28 (K : PySem.W.Frag) : Bool := He.eqO (PySem.W.findIn K (.ref (He.ga K "NoCutting")) "__class__") (some (some (.builtin "object.__class__")))
def faM29 (K : PySem.W.Frag) : Bool := He.eqO (PySem.W.specialIn K (.builtin "object.__class__") "__get__") (some (some (.builtin "getset_descriptor.__get__")))
def faM30 (K : PySem.W.Frag) : Bool := decide (PySem.W.takesIn K (.builtin "object.__class__") = some true)
def faM31 (K : PySem.W.Frag) : Bool := decide (PySem.W.mroIn K (He.ga K "NoCutting") (.type "object") = some true)
def faM32 (K : PySem.W.Frag) : Bool := He.eqO (PySem.W.nsIn K mainGlobals "NoCutting") (some (some (.ref (He.ga K "NoCutting"))))
def faM33 (K : PySem.W.Frag) : Bool := PySem.W.excIn K (He.ga K "NoCutting") [.type "ValueError", .type "Exception", .type "BaseException", .type "object"] "ValueError.__new__"
def faM34 (K : PySem.W.Frag) : Bool := PySem.W.keepIn K (.ref (He.ga K "NoCutting"))
def faM35 (K : PySem.W.Frag) : Bool := decide (PySem.W.typeIn K (.ref (He.ga K "NoCutting")) = some (.type "type"))
def faM36 (K : PySem.W.Frag) : Bool := decide (PySem.W.subIn K (.ref (He.ga K "NoPost")) (.type "BaseException") = some true)
def faM37 (K : PySem.W.Frag) : Bool := He.eqO (PySem.W.findIn K (.ref (He.ga K "NoPost")) "__getattribute__") (some (some (.builtin "BaseException.__getattribute__")))
def faM38 (K : PySem.W.Frag) : Bool := He.eqO (PySem.W.findIn K (.ref (He.ga K "NoPost")) "__getattr__") (some none)
def faM39 (K : PySem.W.Frag) : Bool := PySem.W.hasDictIn K (He.ga K "NoPost")
def faM40 (K : PySem.W.Frag) : Bool := He.eqO (PySem.W.findIn K (.ref (He.ga K "NoPost")) "__class__") (some (some (.builtin "object.__class__")))
def faM41 (K : PySem.W.Frag) : Bool := He.eqO (PySem.W.specialIn K (.builtin "object.__class__") "__get__") (some (some (.builtin "getset_descriptor.__get__")))
def faM42 (K : PySem.W.Frag) : Bool := decide (PySem.W.takesIn K (.builtin "object.__class__") = some true)
def faM43 (K : PySem.W.Frag) : Bool := decide (PySem.W.mroIn K (He.ga K "NoPost") (.type "object") = some true)
def faM44 (K : PySem.W.Frag) : Bool := He.eqO (PySem.W.nsIn K mainGlobals "NoPost") (some (some (.ref (He.ga K "NoPost"))))
def faM45 (K : PySem.W.Frag) : Bool := PySem.W.excIn K (He.ga K "NoPost") [.type "ValueError", .type "Exception", .type "BaseException", .type "object"] "ValueError.__new__"
def faM46 (K : PySem.W.Frag) : Bool := PySem.W.keepIn K (.ref (He.ga K "NoPost"))
def faM47 (K : PySem.W.Frag) : Bool := decide (PySem.W.typeIn K (.ref (He.ga K "NoPost")) = some (.type "type"))
def faM48 (K : PySem.W.Frag) : Bool := decide (PySem.W.subIn K (.ref (He.ga K "NoRope")) (.type "BaseException") = some true)
def faM49 (K : PySem.W.Frag) : Bool := He.eqO (PySem.W.findIn K (.ref (He.ga K "NoRope")) "__getattribute__") (some (some (.builtin "BaseException.__getattribute__")))
def faM50 (K : PySem.W.Frag) : Bool := He.eqO (PySem.W.findIn K (.ref (He.ga K "NoRope")) "__getattr__") (some none)
def faM51 (K : PySem.W.Frag) : Bool := PySem.W.hasDictIn K (He.ga K "NoRope")
def faM52 (K : PySem.W.Frag) : Bool := He.eqO (PySem.W.findIn K (.ref (He.ga K "NoRope")) "__class__") (some (some (.builtin "object.__class__")))
def faM53 (K : PySem.W.Frag) : Bool := He.eqO (PySem.W.specialIn K (.builtin "object.__class__") "__get__") (some (some (.builtin "getset_descriptor.__get__")))
def faM54 (K : PySem.W.Frag) : Bool := decide (PySem.W.takesIn K (.builtin "object.__class__") = some true)
def faM55 (K : PySem.W.Frag) : Bool := decide (PySem.W.mroIn K (He.ga K "NoRope") (.type "object") = some true)
def faM56 (K : PySem.W.Frag) : Bool := He.eqO (PySem.W.nsIn K mainGlobals "NoRope") (some (some (.ref (He.ga K "NoRope"))))
def faM57 (K : PySem.W.Frag) : Bool := PySem.W.excIn K (He.ga K "NoRope") [.type "ValueError", .type "Exception", .type "BaseException", .type "object"] "ValueError.__new__"
def faM58 (K : PySem.W.Frag) : Bool := PySem.W.keepIn K (.ref (He.ga K "NoRope"))
def faM59 (K : PySem.W.Frag) : Bool := decide (PySem.W.typeIn K (.ref (He.ga K "NoRope")) = some (.type "type"))
def faM60 (K : PySem.W.Frag) : Bool := decide (PySem.W.subIn K (.ref (He.ga K "BadLength")) (.type "BaseException") = some true)
def faM61 (K : PySem.W.Frag) : Bool := He.eqO (PySem.W.findIn K (.ref (He.ga K "BadLength")) "__getattribute__") (some (some (.builtin "BaseException.__getattribute__")))
def faM62 (K : PySem.W.Frag) : Bool := He.eqO (PySem.W.findIn K (.ref (He.ga K "BadLength")) "__getattr__") (some none)
def faM63 (K : PySem.W.Frag) : Bool := PySem.W.hasDictIn K (He.ga K "BadLength")
def faM64 (K : PySem.W.Frag) : Bool := He.eqO (PySem.W.findIn K (.ref (He.ga K "BadLength")) "__class__") (some (some (.builtin "object.__class__")))
def faM65 (K : PySem.W.Frag) : Bool := He.eqO (PySem.W.specialIn K (.builtin "object.__class__") "__get__") (some (some (.builtin "getset_descriptor.__get__")))
def faM66 (K : PySem.W.Frag) : Bool := decide (PySem.W.takesIn K (.builtin "object.__class__") = some true)
def faM67 (K : PySem.W.Frag) : Bool := decide (PySem.W.mroIn K (He.ga K "BadLength") (.type "object") = some true)
def faM68 (K : PySem.W.Frag) : Bool := He.eqO (PySem.W.nsIn K mainGlobals "BadLength") (some (some (.ref (He.ga K "BadLength"))))
def faM69 (K : PySem.W.Frag) : Bool := PySem.W.excIn K (He.ga K "BadLength") [.type "ValueError", .type "Exception", .type "BaseException", .type "object"] "ValueError.__new__"
def faM70 (K : PySem.W.Frag) : Bool := PySem.W.keepIn K (.ref (He.ga K "BadLength"))
def faM71 (K : PySem.W.Frag) : Bool := decide (PySem.W.typeIn K (.ref (He.ga K "BadLength")) = some (.type "type"))
def faM72 (K : PySem.W.Frag) : Bool := decide (PySem.W.subIn K (.ref (He.ga K "Full")) (.type "BaseException") = some true)
def faM73 (K : PySem.W.Frag) : Bool := He.eqO (PySem.W.findIn K (.ref (He.ga K "Full")) "__getattribute__") (some (some (.builtin "BaseException.__getattribute__")))
def faM74 (K : PySem.W.Frag) : Bool := He.eqO (PySem.W.findIn K (.ref (He.ga K "Full")) "__getattr__") (some none)
def faM75 (K : PySem.W.Frag) : Bool := PySem.W.hasDictIn K (He.ga K "Full")
def faM76 (K : PySem.W.Frag) : Bool := He.eqO (PySem.W.findIn K (.ref (He.ga K "Full")) "__class__") (some (some (.builtin "object.__class__")))
def faM77 (K : PySem.W.Frag) : Bool := He.eqO (PySem.W.specialIn K (.builtin "object.__class__") "__get__") (some (some (.builtin "getset_descriptor.__get__")))
def faM78 (K : PySem.W.Frag) : Bool := decide (PySem.W.takesIn K (.builtin "object.__class__") = some true)
def faM79 (K : PySem.W.Frag) : Bool := decide (PySem.W.mroIn K (He.ga K "Full") (.type "object") = some true)
def faM80 (K : PySem.W.Frag) : Bool := He.eqO (PySem.W.nsIn K mainGlobals "Full") (some (some (.ref (He.ga K "Full"))))
def faM81 (K : PySem.W.Frag) : Bool := PySem.W.excIn K (He.ga K "Full") [.type "ValueError", .type "Exception", .type "BaseException", .type "object"] "ValueError.__new__"
def faM82 (K : PySem.W.Frag) : Bool := PySem.W.keepIn K (.ref (He.ga K "Full"))
def faM83 (K : PySem.W.Frag) : Bool := decide (PySem.W.typeIn K (.ref (He.ga K "Full")) = some (.type "type"))
def faM84 (K : PySem.W.Frag) : Bool := decide (PySem.W.subIn K (.ref (He.ga K "Few")) (.type "BaseException") = some true)
def faM85 (K : PySem.W.Frag) : Bool := He.eqO (PySem.W.findIn K (.ref (He.ga K "Few")) "__getattribute__") (some (some (.builtin "BaseException.__getattribute__")))
def faM86 (K : PySem.W.Frag) : Bool := He.eqO (PySem.W.findIn K (.ref (He.ga K "Few")) "__getattr__") (some none)
def faM87 (K : PySem.W.Frag) : Bool := PySem.W.hasDictIn K (He.ga K "Few")
def faM88 (K : PySem.W.Frag) : Bool := He.eqO (PySem.W.findIn K (.ref (He.ga K "Few")) "__class__") (some (some (.builtin "object.__class__")))
def faM89 (K : PySem.W.Frag) : Bool := He.eqO (PySem.W.specialIn K (.builtin "object.__class__") "__get__") (some (some (.builtin "getset_descriptor.__get__")))
def faM90 (K : PySem.W.Frag) : Bool := decide (PySem.W.takesIn K (.builtin "object.__class__") = some true)
def faM91 (K : PySem.W.Frag) : Bool := decide (PySem.W.mroIn K (He.ga K "Few") (.type "object") = some true)
def faM92 (K : PySem.W.Frag) : Bool := He.eqO (PySem.W.nsIn K mainGlobals "Few") (some (some (.ref (He.ga K "Few"))))
def faM93 (K : PySem.W.Frag) : Bool := PySem.W.excIn K (He.ga K "Few") [.type "ValueError", .type "Exception", .type "BaseException", .type "object"] "ValueError.__new__"
def faM94 (K : PySem.W.Frag) : Bool := PySem.W.keepIn K (.ref (He.ga K "Few"))
def faM95 (K : PySem.W.Frag) : Bool := decide (PySem.W.typeIn K (.ref (He.ga K "Few")) = some (.type "type"))
def faM96 (K : PySem.W.Frag) : Bool := decide (PySem.W.subIn K (.ref (He.ga K "HasRopes")) (.type "BaseException") = some true)
def faM97 (K : PySem.W.Frag) : Bool := He.eqO (PySem.W.findIn K (.ref (He.ga K "HasRopes")) "__getattribute__") (some (some (.builtin "BaseException.__getattribute__")))
def faM98 (K : PySem.W.Frag) : Bool := He.eqO (PySem.W.findIn K (.ref (He.ga K "HasRopes")) "__getattr__") (some none)
def faM99 (K : PySem.W.Frag) : Bool := PySem.W.hasDictIn K (He.ga K "HasRopes")
def faM100 (K : PySem.W.Frag) : Bool := He.eqO (PySem.W.findIn K (.ref (He.ga K "HasRopes")) "__class__") (some (some (.builtin "object.__class__")))
def faM101 (K : PySem.W.Frag) : Bool := He.eqO (PySem.W.specialIn K (.builtin "object.__class__") "__get__") (some (some (.builtin "getset_descriptor.__get__")))
def faM102 (K : PySem.W.Frag) : Bool := decide (PySem.W.takesIn K (.builtin "object.__class__") = some true)
def faM103 (K : PySem.W.Frag) : Bool := decide (PySem.W.mroIn K (He.ga K "HasRopes") (.type "object") = some true)
def faM104 (K : PySem.W.Frag) : Bool := He.eqO (PySem.W.nsIn K mainGlobals "HasRopes") (some (some (.ref (He.ga K "HasRopes"))))
def faM105 (K : PySem.W.Frag) : Bool := PySem.W.excIn K (He.ga K "HasRopes") [.type "ValueError", .type "Exception", .type "BaseException", .type "object"] "ValueError.__new__"
def faM106 (K : PySem.W.Frag) : Bool := PySem.W.keepIn K (.ref (He.ga K "HasRopes"))
def faM107 (K : PySem.W.Frag) : Bool := decide (PySem.W.typeIn K (.ref (He.ga K "HasRopes")) = some (.type "type"))
def faM108 (K : PySem.W.Frag) : Bool := decide (PySem.W.subIn K (.ref (He.ga K "NoBack")) (.type "BaseException") = some true)
def faM109 (K : PySem.W.Frag) : Bool := He.eqO (PySem.W.findIn K (.ref (He.ga K "NoBack")) "__getattribute__") (some (some (.builtin "BaseException.__getattribute__")))
def faM110 (K : PySem.W.Frag) : Bool := He.eqO (PySem.W.findIn K (.ref (He.ga K "NoBack")) "__getattr__") (some none)
def faM111 (K : PySem.W.Frag) : Bool := PySem.W.hasDictIn K (He.ga K "NoBack")
def faM112 (K : PySem.W.Frag) : Bool := He.eqO (PySem.W.findIn K (.ref (He.ga K "NoBack")) "__class__") (some (some (.builtin "object.__class__")))
def faM113 (K : PySem.W.Frag) : Bool := He.eqO (PySem.W.specialIn K (.builtin "object.__class__") "__get__") (some (some (.builtin "getset_descriptor.__get__")))
def faM114 (K : PySem.W.Frag) : Bool := decide (PySem.W.takesIn K (.builtin "object.__class__") = some true)
def faM115 (K : PySem.W.Frag) : Bool := decide (PySem.W.mroIn K (He.ga K "NoBack") (.type "object") = some true)
def faM116 (K : PySem.W.Frag) : Bool := He.eqO (PySem.W.nsIn K mainGlobals "NoBack") (some (some (.ref (He.ga K "NoBack"))))
def faM117 (K : PySem.W.Frag) : Bool := PySem.W.excIn K (He.ga K "NoBack") [.type "ValueError", .type "Exception", .type "BaseException", .type "object"] "ValueError.__new__"
def faM118 (K : PySem.W.Frag) : Bool := PySem.W.keepIn K (.ref (He.ga K "NoBack"))
def faM119 (K : PySem.W.Frag) : Bool := decide (PySem.W.typeIn K (.ref (He.ga K "NoBack")) = some (.type "type"))
def faM120 (K : PySem.W.Frag) : Bool := decide (PySem.W.subIn K (.ref (He.ga K "NoPost")) (.ref (He.ga K "NoPost")) = some true)
def faM121 (K : PySem.W.Frag) : Bool := decide (PySem.W.subIn K (.ref (He.ga K "NoFraction")) (.ref (He.ga K "NoFraction")) = some true)
def faM122 (K : PySem.W.Frag) : Bool := decide (PySem.W.subIn K (.ref (He.ga K "Full")) (.ref (He.ga K "Full")) = some true)
def faM123 (K : PySem.W.Frag) : Bool := decide (PySem.W.subIn K (.ref (He.ga K "Few")) (.ref (He.ga K "Few")) = some true)
def faM124 (K : PySem.W.Frag) : Bool := decide (PySem.W.subIn K (.ref (He.ga K "HasRopes")) (.ref (He.ga K "HasRopes")) = some true)
def faM125 (K : PySem.W.Frag) : Bool := decide (PySem.W.subIn K (.ref (He.ga K "NoFraction")) (.ref (He.ga K "NoPost")) = some false)
def faM126 (K : PySem.W.Frag) : Bool := decide (PySem.W.subIn K (.ref (He.ga K "NoFraction")) (.ref (He.ga K "NoRope")) = some false)
def faM127 (K : PySem.W.Frag) : Bool := decide (PySem.W.subIn K (.ref (He.ga K "Full")) (.ref (He.ga K "NoPost")) = some false)
def faM128 (K : PySem.W.Frag) : Bool := decide (PySem.W.subIn K (.ref (He.ga K "Full")) (.ref (He.ga K "NoRope")) = some false)
def faM129 (K : PySem.W.Frag) : Bool := decide (PySem.W.subIn K (.ref (He.ga K "Full")) (.ref (He.ga K "NoFraction")) = some false)
def faM130 (K : PySem.W.Frag) : Bool := decide (PySem.W.subIn K (.ref (He.ga K "Few")) (.ref (He.ga K "NoPost")) = some false)
def faM131 (K : PySem.W.Frag) : Bool := decide (PySem.W.subIn K (.ref (He.ga K "Few")) (.ref (He.ga K "NoRope")) = some false)
def faM132 (K : PySem.W.Frag) : Bool := decide (PySem.W.subIn K (.ref (He.ga K "Few")) (.ref (He.ga K "NoFraction")) = some false)
def faM133 (K : PySem.W.Frag) : Bool := decide (PySem.W.subIn K (.ref (He.ga K "Few")) (.ref (He.ga K "Full")) = some false)
def faM134 (K : PySem.W.Frag) : Bool := decide (PySem.W.subIn K (.ref (He.ga K "HasRopes")) (.ref (He.ga K "NoPost")) = some false)
def faM135 (K : PySem.W.Frag) : Bool := decide (PySem.W.subIn K (.ref (He.ga K "HasRopes")) (.ref (He.ga K "NoRope")) = some false)
def faM136 (K : PySem.W.Frag) : Bool := decide (PySem.W.subIn K (.ref (He.ga K "HasRopes")) (.ref (He.ga K "NoFraction")) = some false)
def faM137 (K : PySem.W.Frag) : Bool := decide (PySem.W.subIn K (.ref (He.ga K "HasRopes")) (.ref (He.ga K "Full")) = some false)
def faM138 (K : PySem.W.Frag) : Bool := decide (PySem.W.subIn K (.ref (He.ga K "HasRopes")) (.ref (He.ga K "Few")) = some false)
def faM139 (K : PySem.W.Frag) : Bool := He.eqO (PySem.W.nsIn K mainGlobals "Mead") (some (some (.ref (He.ga K "Mead"))))
def faM140 (K : PySem.W.Frag) : Bool := PySem.W.plainGet K (He.ga K "Mead") Str.empty
def faM141 (K : PySem.W.Frag) : Bool := PySem.W.hasDictIn K (He.ga K "Mead")
def faM142 (K : PySem.W.Frag) : Bool := PySem.W.plainOver K (He.ga K "Mead")
def faM143 (K : PySem.W.Frag) : Bool := He.eqO (PySem.W.findIn K (.ref (He.ga K "Mead")) "__setattr__") (some (some (.builtin "object.__setattr__")))
def faM144 (K : PySem.W.Frag) : Bool := He.eqO (PySem.W.findIn K (.ref (He.ga K "Mead")) "_state") (some none)
def faM145 (K : PySem.W.Frag) : Bool := He.eqO (PySem.W.findIn K (.ref (He.ga K "Mead")) "_standing") (some none)
def faM146 (K : PySem.W.Frag) : Bool := He.eqO (PySem.W.findIn K (.ref (He.ga K "Mead")) "_undone") (some none)
def faM147 (K : PySem.W.Frag) : Bool := PySem.W.keepIn K (.ref (He.ga K "pair_of"))
def faM148 (K : PySem.W.Frag) : Bool := He.Fa.ok K (.code ("pair_of", none) "pair_of")
def faM149 (K : PySem.W.Frag) : Bool := He.eqO (PySem.W.nsIn K mainGlobals "pair_of") (some (some (.ref (He.ga K "pair_of"))))
def faM150 (K : PySem.W.Frag) : Bool := PySem.W.keepIn K (.ref (He.ga K "need_post"))
def faM151 (K : PySem.W.Frag) : Bool := He.Fa.ok K (.code ("need_post", none) "need_post")
def faM152 (K : PySem.W.Frag) : Bool := He.eqO (PySem.W.nsIn K mainGlobals "need_post") (some (some (.ref (He.ga K "need_post"))))
def faM153 (K : PySem.W.Frag) : Bool := PySem.W.keepIn K (.ref (He.ga K "crosses"))
def faM154 (K : PySem.W.Frag) : Bool := He.Fa.ok K (.code ("crosses", none) "crosses")
def faM155 (K : PySem.W.Frag) : Bool := He.eqO (PySem.W.nsIn K mainGlobals "crosses") (some (some (.ref (He.ga K "crosses"))))
def faM156 (K : PySem.W.Frag) : Bool := PySem.W.keepIn K (.ref (He.ga K "kept"))
def faM157 (K : PySem.W.Frag) : Bool := He.Fa.ok K (.code ("kept", none) "kept")
def faM158 (K : PySem.W.Frag) : Bool := He.eqO (PySem.W.nsIn K mainGlobals "kept") (some (some (.ref (He.ga K "kept"))))
def faM159 (K : PySem.W.Frag) : Bool := PySem.W.keepIn K (.ref (He.ga K "is_cutting"))
def faM160 (K : PySem.W.Frag) : Bool := He.Fa.ok K (.code ("is_cutting", none) "is_cutting")
def faM161 (K : PySem.W.Frag) : Bool := He.eqO (PySem.W.nsIn K mainGlobals "is_cutting") (some (some (.ref (He.ga K "is_cutting"))))
def faM162 (K : PySem.W.Frag) : Bool := PySem.W.keepIn K (.ref (He.ga K "is_rope"))
def faM163 (K : PySem.W.Frag) : Bool := He.Fa.ok K (.code ("is_rope", none) "is_rope")
def faM164 (K : PySem.W.Frag) : Bool := He.eqO (PySem.W.nsIn K mainGlobals "is_rope") (some (some (.ref (He.ga K "is_rope"))))
def faM165 (K : PySem.W.Frag) : Bool := PySem.W.keepIn K (.ref (He.ga K "sides"))
def faM166 (K : PySem.W.Frag) : Bool := He.Fa.ok K (.code ("sides", none) "sides")
def faM167 (K : PySem.W.Frag) : Bool := He.eqO (PySem.W.nsIn K mainGlobals "sides") (some (some (.ref (He.ga K "sides"))))
def faM168 (K : PySem.W.Frag) : Bool := PySem.W.keepIn K (.ref (He.ga K "ties"))
def faM169 (K : PySem.W.Frag) : Bool := He.Fa.ok K (.code ("ties", none) "ties")
def faM170 (K : PySem.W.Frag) : Bool := He.eqO (PySem.W.nsIn K mainGlobals "ties") (some (some (.ref (He.ga K "ties"))))
def faM171 (K : PySem.W.Frag) : Bool := PySem.W.keepIn K (.ref (He.ga K "ropes_among"))
def faM172 (K : PySem.W.Frag) : Bool := He.Fa.ok K (.code ("ropes_among", none) "ropes_among")
def faM173 (K : PySem.W.Frag) : Bool := He.eqO (PySem.W.nsIn K mainGlobals "ropes_among") (some (some (.ref (He.ga K "ropes_among"))))
def faM174 (K : PySem.W.Frag) : Bool := PySem.W.keepIn K (.ref (He.ga K "lowest"))
def faM175 (K : PySem.W.Frag) : Bool := He.Fa.ok K (.code ("lowest", none) "lowest")
def faM176 (K : PySem.W.Frag) : Bool := He.eqO (PySem.W.nsIn K mainGlobals "lowest") (some (some (.ref (He.ga K "lowest"))))
def faM177 (K : PySem.W.Frag) : Bool := PySem.W.keepIn K (.ref (He.ga K "is_part"))
def faM178 (K : PySem.W.Frag) : Bool := He.Fa.ok K (.code ("is_part", none) "is_part")
def faM179 (K : PySem.W.Frag) : Bool := He.eqO (PySem.W.nsIn K mainGlobals "is_part") (some (some (.ref (He.ga K "is_part"))))
def faM180 (K : PySem.W.Frag) : Bool := PySem.W.keepIn K (.ref (He.ga K "is_length"))
def faM181 (K : PySem.W.Frag) : Bool := He.Fa.ok K (.code ("is_length", none) "is_length")
def faM182 (K : PySem.W.Frag) : Bool := He.eqO (PySem.W.nsIn K mainGlobals "is_length") (some (some (.ref (He.ga K "is_length"))))
def faM183 (K : PySem.W.Frag) : Bool := He.eqO (PySem.W.findIn K (.ref (He.ga K "Mead")) "__init__") (some (some (.ref (He.ma K (He.ga K "Mead") "__init__"))))
def faM184 (K : PySem.W.Frag) : Bool := PySem.W.isFn K (.ref (He.ma K (He.ga K "Mead") "__init__"))
def faM185 (K : PySem.W.Frag) : Bool := PySem.W.keepIn K (.ref (He.ma K (He.ga K "Mead") "__init__"))
def faM186 (K : PySem.W.Frag) : Bool := He.Fa.ok K (.code ("Mead", some "__init__") "Mead.__init__")
def faM187 (K : PySem.W.Frag) : Bool := PySem.W.makesIn K (He.ga K "Mead")
def faM188 (K : PySem.W.Frag) : Bool := PySem.W.keepIn K (.ref (He.ga K "Mead"))
def faM189 (K : PySem.W.Frag) : Bool := He.eqO (PySem.W.findIn K (.ref (He.ga K "Mead")) "posts") (some (some (.ref (He.ma K (He.ga K "Mead") "posts"))))
def faM190 (K : PySem.W.Frag) : Bool := PySem.W.isFn K (.ref (He.ma K (He.ga K "Mead") "posts"))
def faM191 (K : PySem.W.Frag) : Bool := PySem.W.keepIn K (.ref (He.ma K (He.ga K "Mead") "posts"))
def faM192 (K : PySem.W.Frag) : Bool := He.Fa.ok K (.code ("Mead", some "posts") "Mead.posts")
def faM193 (K : PySem.W.Frag) : Bool := He.eqO (PySem.W.findIn K (.ref (He.ga K "Mead")) "ropes") (some (some (.ref (He.ma K (He.ga K "Mead") "ropes"))))
def faM194 (K : PySem.W.Frag) : Bool := PySem.W.isFn K (.ref (He.ma K (He.ga K "Mead") "ropes"))
def faM195 (K : PySem.W.Frag) : Bool := PySem.W.keepIn K (.ref (He.ma K (He.ga K "Mead") "ropes"))
def faM196 (K : PySem.W.Frag) : Bool := He.Fa.ok K (.code ("Mead", some "ropes") "Mead.ropes")
def faM197 (K : PySem.W.Frag) : Bool := He.eqO (PySem.W.findIn K (.ref (He.ga K "Mead")) "lengths") (some (some (.ref (He.ma K (He.ga K "Mead") "lengths"))))
def faM198 (K : PySem.W.Frag) : Bool := PySem.W.isFn K (.ref (He.ma K (He.ga K "Mead") "lengths"))
def faM199 (K : PySem.W.Frag) : Bool := PySem.W.keepIn K (.ref (He.ma K (He.ga K "Mead") "lengths"))
def faM200 (K : PySem.W.Frag) : Bool := He.Fa.ok K (.code ("Mead", some "lengths") "Mead.lengths")
def faM201 (K : PySem.W.Frag) : Bool := He.eqO (PySem.W.findIn K (.ref (He.ga K "Mead")) "deeds") (some (some (.ref (He.ma K (He.ga K "Mead") "deeds"))))
def faM202 (K : PySem.W.Frag) : Bool := PySem.W.isFn K (.ref (He.ma K (He.ga K "Mead") "deeds"))
def faM203 (K : PySem.W.Frag) : Bool := PySem.W.keepIn K (.ref (He.ma K (He.ga K "Mead") "deeds"))
def faM204 (K : PySem.W.Frag) : Bool := He.Fa.ok K (.code ("Mead", some "deeds") "Mead.deeds")
def faM205 (K : PySem.W.Frag) : Bool := He.eqO (PySem.W.findIn K (.ref (He.ga K "Mead")) "set_out") (some (some (.ref (He.ma K (He.ga K "Mead") "set_out"))))
def faM206 (K : PySem.W.Frag) : Bool := PySem.W.isFn K (.ref (He.ma K (He.ga K "Mead") "set_out"))
def faM207 (K : PySem.W.Frag) : Bool := PySem.W.keepIn K (.ref (He.ma K (He.ga K "Mead") "set_out"))
def faM208 (K : PySem.W.Frag) : Bool := He.Fa.ok K (.code ("Mead", some "set_out") "Mead.set_out")
def faM209 (K : PySem.W.Frag) : Bool := He.eqO (PySem.W.findIn K (.ref (He.ga K "Mead")) "draw") (some (some (.ref (He.ma K (He.ga K "Mead") "draw"))))
def faM210 (K : PySem.W.Frag) : Bool := PySem.W.isFn K (.ref (He.ma K (He.ga K "Mead") "draw"))
def faM211 (K : PySem.W.Frag) : Bool := PySem.W.keepIn K (.ref (He.ma K (He.ga K "Mead") "draw"))
def faM212 (K : PySem.W.Frag) : Bool := He.Fa.ok K (.code ("Mead", some "draw") "Mead.draw")
def faM213 (K : PySem.W.Frag) : Bool := He.eqO (PySem.W.findIn K (.ref (He.ga K "Mead")) "_do") (some (some (.ref (He.ma K (He.ga K "Mead") "_do"))))
def faM214 (K : PySem.W.Frag) : Bool := PySem.W.isFn K (.ref (He.ma K (He.ga K "Mead") "_do"))
def faM215 (K : PySem.W.Frag) : Bool := PySem.W.keepIn K (.ref (He.ma K (He.ga K "Mead") "_do"))
def faM216 (K : PySem.W.Frag) : Bool := He.Fa.ok K (.code ("Mead", some "_do") "Mead._do")
def faM217 (K : PySem.W.Frag) : Bool := PySem.W.keepIn K (.ref (He.ga K "checked"))
def faM218 (K : PySem.W.Frag) : Bool := He.Fa.ok K (.code ("checked", none) "checked")
def faM219 (K : PySem.W.Frag) : Bool := He.eqO (PySem.W.nsIn K mainGlobals "checked") (some (some (.ref (He.ga K "checked"))))
def faM220 (K : PySem.W.Frag) : Bool := PySem.W.keepIn K (.ref (He.ga K "shifted"))
def faM221 (K : PySem.W.Frag) : Bool := He.Fa.ok K (.code ("shifted", none) "shifted")
def faM222 (K : PySem.W.Frag) : Bool := He.eqO (PySem.W.nsIn K mainGlobals "shifted") (some (some (.ref (He.ga K "shifted"))))
def faM223 (K : PySem.W.Frag) : Bool := PySem.W.keepIn K (.ref (He.ga K "_law_flow"))
def faM224 (K : PySem.W.Frag) : Bool := He.Fa.ok K (.code ("_law_flow", none) "_law_flow")
def faM225 (K : PySem.W.Frag) : Bool := He.eqO (PySem.W.nsIn K mainGlobals "_law_flow") (some (some (.ref (He.ga K "_law_flow"))))
def faM226 (K : PySem.W.Frag) : Bool := PySem.W.keepIn K (.ref (He.ga K "_law_whole"))
def faM227 (K : PySem.W.Frag) : Bool := He.Fa.ok K (.code ("_law_whole", none) "_law_whole")
def faM228 (K : PySem.W.Frag) : Bool := He.eqO (PySem.W.nsIn K mainGlobals "_law_whole") (some (some (.ref (He.ga K "_law_whole"))))
def faM229 (K : PySem.W.Frag) : Bool := PySem.W.keepIn K (.ref (He.ga K "_law_low"))
def faM230 (K : PySem.W.Frag) : Bool := He.Fa.ok K (.code ("_law_low", none) "_law_low")
def faM231 (K : PySem.W.Frag) : Bool := He.eqO (PySem.W.nsIn K mainGlobals "_law_low") (some (some (.ref (He.ga K "_law_low"))))
def faM232 (K : PySem.W.Frag) : Bool := PySem.W.keepIn K (.ref (He.ga K "_law_part"))
def faM233 (K : PySem.W.Frag) : Bool := He.Fa.ok K (.code ("_law_part", none) "_law_part")
def faM234 (K : PySem.W.Frag) : Bool := He.eqO (PySem.W.nsIn K mainGlobals "_law_part") (some (some (.ref (He.ga K "_law_part"))))
def faM235 (K : PySem.W.Frag) : Bool := PySem.W.keepIn K (.ref (He.ga K "_law_size"))
def faM236 (K : PySem.W.Frag) : Bool := He.Fa.ok K (.code ("_law_size", none) "_law_size")
def faM237 (K : PySem.W.Frag) : Bool := He.eqO (PySem.W.nsIn K mainGlobals "_law_size") (some (some (.ref (He.ga K "_law_size"))))
def faM238 (K : PySem.W.Frag) : Bool := PySem.W.keepIn K (.ref (He.ga K "_law_many"))
def faM239 (K : PySem.W.Frag) : Bool := He.Fa.ok K (.code ("_law_many", none) "_law_many")
def faM240 (K : PySem.W.Frag) : Bool := He.eqO (PySem.W.nsIn K mainGlobals "_law_many") (some (some (.ref (He.ga K "_law_many"))))
def faM241 (K : PySem.W.Frag) : Bool := PySem.W.keepIn K (.ref (He.ga K "_law_pair"))
def faM242 (K : PySem.W.Frag) : Bool := He.Fa.ok K (.code ("_law_pair", none) "_law_pair")
def faM243 (K : PySem.W.Frag) : Bool := He.eqO (PySem.W.nsIn K mainGlobals "_law_pair") (some (some (.ref (He.ga K "_law_pair"))))
def faM244 (K : PySem.W.Frag) : Bool := PySem.W.keepIn K (.ref (He.ga K "_law_ears"))
def faM245 (K : PySem.W.Frag) : Bool := He.Fa.ok K (.code ("_law_ears", none) "_law_ears")
def faM246 (K : PySem.W.Frag) : Bool := He.eqO (PySem.W.nsIn K mainGlobals "_law_ears") (some (some (.ref (He.ga K "_law_ears"))))
def faM247 (K : PySem.W.Frag) : Bool := PySem.W.keepIn K (.ref (He.ga K "_law_ropes"))
def faM248 (K : PySem.W.Frag) : Bool := He.Fa.ok K (.code ("_law_ropes", none) "_law_ropes")
def faM249 (K : PySem.W.Frag) : Bool := He.eqO (PySem.W.nsIn K mainGlobals "_law_ropes") (some (some (.ref (He.ga K "_law_ropes"))))
def faM250 (K : PySem.W.Frag) : Bool := PySem.W.keepIn K (.ref (He.ga K "_law_sides"))
def faM251 (K : PySem.W.Frag) : Bool := He.Fa.ok K (.code ("_law_sides", none) "_law_sides")
def faM252 (K : PySem.W.Frag) : Bool := He.eqO (PySem.W.nsIn K mainGlobals "_law_sides") (some (some (.ref (He.ga K "_law_sides"))))
def faM253 (K : PySem.W.Frag) : Bool := PySem.W.keepIn K (.ref (He.ga K "_law_ties"))
def faM254 (K : PySem.W.Frag) : Bool := He.Fa.ok K (.code ("_law_ties", none) "_law_ties")
def faM255 (K : PySem.W.Frag) : Bool := He.eqO (PySem.W.nsIn K mainGlobals "_law_ties") (some (some (.ref (He.ga K "_law_ties"))))
def faM256 (K : PySem.W.Frag) : Bool := PySem.W.keepIn K (.ref (He.ga K "_law_sized"))
def faM257 (K : PySem.W.Frag) : Bool := He.Fa.ok K (.code ("_law_sized", none) "_law_sized")
def faM258 (K : PySem.W.Frag) : Bool := He.eqO (PySem.W.nsIn K mainGlobals "_law_sized") (some (some (.ref (He.ga K "_law_sized"))))
def faM259 (K : PySem.W.Frag) : Bool := PySem.W.keepIn K (.ref (He.ga K "_law_tuple"))
def faM260 (K : PySem.W.Frag) : Bool := He.Fa.ok K (.code ("_law_tuple", none) "_law_tuple")
def faM261 (K : PySem.W.Frag) : Bool := He.eqO (PySem.W.nsIn K mainGlobals "_law_tuple") (some (some (.ref (He.ga K "_law_tuple"))))
def faM262 (K : PySem.W.Frag) : Bool := PySem.W.keepIn K (.ref (He.ga K "_law_list"))
def faM263 (K : PySem.W.Frag) : Bool := He.Fa.ok K (.code ("_law_list", none) "_law_list")
def faM264 (K : PySem.W.Frag) : Bool := He.eqO (PySem.W.nsIn K mainGlobals "_law_list") (some (some (.ref (He.ga K "_law_list"))))
def faM265 (K : PySem.W.Frag) : Bool := PySem.W.keepIn K (.ref (He.ga K "_law_dict"))
def faM266 (K : PySem.W.Frag) : Bool := He.Fa.ok K (.code ("_law_dict", none) "_law_dict")
def faM267 (K : PySem.W.Frag) : Bool := He.eqO (PySem.W.nsIn K mainGlobals "_law_dict") (some (some (.ref (He.ga K "_law_dict"))))
def faM268 (K : PySem.W.Frag) : Bool := PySem.W.keepIn K (.ref (He.ga K "_law_parts"))
def faM269 (K : PySem.W.Frag) : Bool := He.Fa.ok K (.code ("_law_parts", none) "_law_parts")
def faM270 (K : PySem.W.Frag) : Bool := He.eqO (PySem.W.nsIn K mainGlobals "_law_parts") (some (some (.ref (He.ga K "_law_parts"))))
def faM271 (K : PySem.W.Frag) : Bool := PySem.W.keepIn K (.ref (He.ga K "_law_shift"))
def faM272 (K : PySem.W.Frag) : Bool := He.Fa.ok K (.code ("_law_shift", none) "_law_shift")
def faM273 (K : PySem.W.Frag) : Bool := He.eqO (PySem.W.nsIn K mainGlobals "_law_shift") (some (some (.ref (He.ga K "_law_shift"))))
def faM274 (K : PySem.W.Frag) : Bool := PySem.W.keepIn K (.ref (He.ga K "_law_set"))
def faM275 (K : PySem.W.Frag) : Bool := He.Fa.ok K (.code ("_law_set", none) "_law_set")
def faM276 (K : PySem.W.Frag) : Bool := He.eqO (PySem.W.nsIn K mainGlobals "_law_set") (some (some (.ref (He.ga K "_law_set"))))
def faM277 (K : PySem.W.Frag) : Bool := PySem.W.keepIn K (.ref (He.ga K "_law_draw"))
def faM278 (K : PySem.W.Frag) : Bool := He.Fa.ok K (.code ("_law_draw", none) "_law_draw")
def faM279 (K : PySem.W.Frag) : Bool := He.eqO (PySem.W.nsIn K mainGlobals "_law_draw") (some (some (.ref (He.ga K "_law_draw"))))
def faM280 (K : PySem.W.Frag) : Bool := PySem.W.keepIn K (.ref (He.ga K "_law_model"))
def faM281 (K : PySem.W.Frag) : Bool := He.Fa.ok K (.code ("_law_model", none) "_law_model")
def faM282 (K : PySem.W.Frag) : Bool := He.eqO (PySem.W.nsIn K mainGlobals "_law_model") (some (some (.ref (He.ga K "_law_model"))))
def faM283 (K : PySem.W.Frag) : Bool := PySem.W.keepIn K (.ref (He.ga K "_law_done"))
def faM284 (K : PySem.W.Frag) : Bool := He.Fa.ok K (.code ("_law_done", none) "_law_done")
def faM285 (K : PySem.W.Frag) : Bool := He.eqO (PySem.W.nsIn K mainGlobals "_law_done") (some (some (.ref (He.ga K "_law_done"))))
def faM286 (K : PySem.W.Frag) : Bool := PySem.W.keepIn K (.ref (He.ga K "_law_answer"))
def faM287 (K : PySem.W.Frag) : Bool := He.Fa.ok K (.code ("_law_answer", none) "_law_answer")
def faM288 (K : PySem.W.Frag) : Bool := He.eqO (PySem.W.nsIn K mainGlobals "_law_answer") (some (some (.ref (He.ga K "_law_answer"))))
def faM289 (K : PySem.W.Frag) : Bool := PySem.W.keepIn K (.ref (He.ga K "_law_is_at"))
def faM290 (K : PySem.W.Frag) : Bool := He.Fa.ok K (.code ("_law_is_at", none) "_law_is_at")
def faM291 (K : PySem.W.Frag) : Bool := He.eqO (PySem.W.nsIn K mainGlobals "_law_is_at") (some (some (.ref (He.ga K "_law_is_at"))))
def faM292 (K : PySem.W.Frag) : Bool := PySem.W.keepIn K (.ref (He.ga K "_law_start"))
def faM293 (K : PySem.W.Frag) : Bool := He.Fa.ok K (.code ("_law_start", none) "_law_start")
def faM294 (K : PySem.W.Frag) : Bool := He.eqO (PySem.W.nsIn K mainGlobals "_law_start") (some (some (.ref (He.ga K "_law_start"))))
def faM295 (K : PySem.W.Frag) : Bool := PySem.W.keepIn K (.ref (He.ga K "_law_wild"))
def faM296 (K : PySem.W.Frag) : Bool := He.Fa.ok K (.code ("_law_wild", none) "_law_wild")
def faM297 (K : PySem.W.Frag) : Bool := He.eqO (PySem.W.nsIn K mainGlobals "_law_wild") (some (some (.ref (He.ga K "_law_wild"))))
def faM298 (K : PySem.W.Frag) : Bool := PySem.W.keepIn K (.ref (He.ga K "_law_pick"))
def faM299 (K : PySem.W.Frag) : Bool := He.Fa.ok K (.code ("_law_pick", none) "_law_pick")
def faM300 (K : PySem.W.Frag) : Bool := He.eqO (PySem.W.nsIn K mainGlobals "_law_pick") (some (some (.ref (He.ga K "_law_pick"))))
def faM301 (K : PySem.W.Frag) : Bool := PySem.W.keepIn K (.ref (He.ga K "law"))
def faM302 (K : PySem.W.Frag) : Bool := He.Fa.ok K (.code ("law", none) "law")
def faM303 (K : PySem.W.Frag) : Bool := He.eqO (PySem.W.nsIn K mainGlobals "law") (some (some (.ref (He.ga K "law"))))
def faM304 (K : PySem.W.Frag) : Bool := He.eqO (PySem.W.nsIn K mainGlobals "abs") (some none)
def faM305 (K : PySem.W.Frag) : Bool := He.eqO (PySem.W.nsIn K mainGlobals "all") (some none)
def faM306 (K : PySem.W.Frag) : Bool := He.eqO (PySem.W.nsIn K mainGlobals "any") (some none)
def faM307 (K : PySem.W.Frag) : Bool := He.eqO (PySem.W.nsIn K mainGlobals "bool") (some none)
def faM308 (K : PySem.W.Frag) : Bool := He.eqO (PySem.W.nsIn K mainGlobals "dict") (some none)
def faM309 (K : PySem.W.Frag) : Bool := He.eqO (PySem.W.nsIn K mainGlobals "int") (some none)
def faM310 (K : PySem.W.Frag) : Bool := He.eqO (PySem.W.nsIn K mainGlobals "isinstance") (some none)
def faM311 (K : PySem.W.Frag) : Bool := He.eqO (PySem.W.nsIn K mainGlobals "len") (some none)
def faM312 (K : PySem.W.Frag) : Bool := He.eqO (PySem.W.nsIn K mainGlobals "list") (some none)
def faM313 (K : PySem.W.Frag) : Bool := He.eqO (PySem.W.nsIn K mainGlobals "max") (some none)
def faM314 (K : PySem.W.Frag) : Bool := He.eqO (PySem.W.nsIn K mainGlobals "min") (some none)
def faM315 (K : PySem.W.Frag) : Bool := He.eqO (PySem.W.nsIn K mainGlobals "range") (some none)
def faM316 (K : PySem.W.Frag) : Bool := He.eqO (PySem.W.nsIn K mainGlobals "set") (some none)
def faM317 (K : PySem.W.Frag) : Bool := He.eqO (PySem.W.nsIn K mainGlobals "sorted") (some none)
def faM318 (K : PySem.W.Frag) : Bool := He.eqO (PySem.W.nsIn K mainGlobals "tuple") (some none)
def faM319 (K : PySem.W.Frag) : Bool := He.Fa.ok K (.int "LEAST_POSTS" 3)
def faM320 (K : PySem.W.Frag) : Bool := He.Fa.ok K (.int "MOST_POSTS" 12)
def faM321 (K : PySem.W.Frag) : Bool := He.eqO (PySem.W.nsIn K mainGlobals "combinations") (some (some (.type "itertools.combinations")))
def faM322 (K : PySem.W.Frag) : Bool := He.eqO (PySem.W.nsIn K mainGlobals "gcd") (some (some (.builtin "math.gcd")))
def faM323 (K : PySem.W.Frag) : Bool := He.eqO (PySem.W.nsIn K mainGlobals "law") (some (some (.ref (He.ga K "law"))))
def dM_pair_of : He.FnD := ⟨("pair_of", none), "pair_of", "pair_of", defArgs s_pair_of, defBody s_pair_of, defScope s_pair_of⟩
def dM_need_post : He.FnD := ⟨("need_post", none), "need_post", "need_post", defArgs s_need_post, defBody s_need_post, defScope s_need_post⟩
def dM_crosses : He.FnD := ⟨("crosses", none), "crosses", "crosses", defArgs s_crosses, defBody s_crosses, defScope s_crosses⟩
def dM_kept : He.FnD := ⟨("kept", none), "kept", "kept", defArgs s_kept, defBody s_kept, defScope s_kept⟩
def dM_is_cutting : He.FnD := ⟨("is_cutting", none), "is_cutting", "is_cutting", defArgs s_is_cutting, defBody s_is_cutting, defScope s_is_cutting⟩
def dM_is_rope : He.FnD := ⟨("is_rope", none), "is_rope", "is_rope", defArgs s_is_rope, defBody s_is_rope, defScope s_is_rope⟩
def dM_sides : He.FnD := ⟨("sides", none), "sides", "sides", defArgs s_sides, defBody s_sides, defScope s_sides⟩
def dM_ties : He.FnD := ⟨("ties", none), "ties", "ties", defArgs s_ties, defBody s_ties, defScope s_ties⟩
def dM_ropes_among : He.FnD := ⟨("ropes_among", none), "ropes_among", "ropes_among", defArgs s_ropes_among, defBody s_ropes_among, defScope s_ropes_among⟩
def dM_lowest : He.FnD := ⟨("lowest", none), "lowest", "lowest", defArgs s_lowest, defBody s_lowest, defScope s_lowest⟩
def dM_is_part : He.FnD := ⟨("is_part", none), "is_part", "is_part", defArgs s_is_part, defBody s_is_part, defScope s_is_part⟩
def dM_is_length : He.FnD := ⟨("is_length", none), "is_length", "is_length", defArgs s_is_length, defBody s_is_length, defScope s_is_length⟩
def dM_Mead___init__ : He.FnD := ⟨("Mead", some "__init__"), "__init__", "Mead.__init__", defArgs s_Mead___init__, defBody s_Mead___init__, defScope s_Mead___init__⟩
def dM_Mead_posts : He.FnD := ⟨("Mead", some "posts"), "posts", "Mead.posts", defArgs s_Mead_posts, defBody s_Mead_posts, defScope s_Mead_posts⟩
def dM_Mead_ropes : He.FnD := ⟨("Mead", some "ropes"), "ropes", "Mead.ropes", defArgs s_Mead_ropes, defBody s_Mead_ropes, defScope s_Mead_ropes⟩
def dM_Mead_lengths : He.FnD := ⟨("Mead", some "lengths"), "lengths", "Mead.lengths", defArgs s_Mead_lengths, defBody s_Mead_lengths, defScope s_Mead_lengths⟩
def dM_Mead_deeds : He.FnD := ⟨("Mead", some "deeds"), "deeds", "Mead.deeds", defArgs s_Mead_deeds, defBody s_Mead_deeds, defScope s_Mead_deeds⟩
def dM_Mead_set_out : He.FnD := ⟨("Mead", some "set_out"), "set_out", "Mead.set_out", defArgs s_Mead_set_out, defBody s_Mead_set_out, defScope s_Mead_set_out⟩
def dM_Mead_draw : He.FnD := ⟨("Mead", some "draw"), "draw", "Mead.draw", defArgs s_Mead_draw, defBody s_Mead_draw, defScope s_Mead_draw⟩
def dM_Mead__do : He.FnD := ⟨("Mead", some "_do"), "_do", "Mead._do", defArgs s_Mead__do, defBody s_Mead__do, defScope s_Mead__do⟩
def dM_checked : He.FnD := ⟨("checked", none), "checked", "checked", defArgs s_checked, defBody s_checked, defScope s_checked⟩
def dM_shifted : He.FnD := ⟨("shifted", none), "shifted", "shifted", defArgs s_shifted, defBody s_shifted, defScope s_shifted⟩
def dM__law_flow : He.FnD := ⟨("_law_flow", none), "_law_flow", "_law_flow", defArgs s__law_flow, defBody s__law_flow, defScope s__law_flow⟩
def dM__law_whole : He.FnD := ⟨("_law_whole", none), "_law_whole", "_law_whole", defArgs s__law_whole, defBody s__law_whole, defScope s__law_whole⟩
def dM__law_low : He.FnD := ⟨("_law_low", none), "_law_low", "_law_low", defArgs s__law_low, defBody s__law_low, defScope s__law_low⟩
def dM__law_part : He.FnD := ⟨("_law_part", none), "_law_part", "_law_part", defArgs s__law_part, defBody s__law_part, defScope s__law_part⟩
def dM__law_size : He.FnD := ⟨("_law_size", none), "_law_size", "_law_size", defArgs s__law_size, defBody s__law_size, defScope s__law_size⟩
def dM__law_many : He.FnD := ⟨("_law_many", none), "_law_many", "_law_many", defArgs s__law_many, defBody s__law_many, defScope s__law_many⟩
def dM__law_pair : He.FnD := ⟨("_law_pair", none), "_law_pair", "_law_pair", defArgs s__law_pair, defBody s__law_pair, defScope s__law_pair⟩
def dM__law_ears : He.FnD := ⟨("_law_ears", none), "_law_ears", "_law_ears", defArgs s__law_ears, defBody s__law_ears, defScope s__law_ears⟩
def dM__law_ropes : He.FnD := ⟨("_law_ropes", none), "_law_ropes", "_law_ropes", defArgs s__law_ropes, defBody s__law_ropes, defScope s__law_ropes⟩
def dM__law_sides : He.FnD := ⟨("_law_sides", none), "_law_sides", "_law_sides", defArgs s__law_sides, defBody s__law_sides, defScope s__law_sides⟩
def dM__law_ties : He.FnD := ⟨("_law_ties", none), "_law_ties", "_law_ties", defArgs s__law_ties, defBody s__law_ties, defScope s__law_ties⟩
def dM__law_sized : He.FnD := ⟨("_law_sized", none), "_law_sized", "_law_sized", defArgs s__law_sized, defBody s__law_sized, defScope s__law_sized⟩
def dM__law_tuple : He.FnD := ⟨("_law_tuple", none), "_law_tuple", "_law_tuple", defArgs s__law_tuple, defBody s__law_tuple, defScope s__law_tuple⟩
def dM__law_list : He.FnD := ⟨("_law_list", none), "_law_list", "_law_list", defArgs s__law_list, defBody s__law_list, defScope s__law_list⟩
def dM__law_dict : He.FnD := ⟨("_law_dict", none), "_law_dict", "_law_dict", defArgs s__law_dict, defBody s__law_dict, defScope s__law_dict⟩
def dM__law_parts : He.FnD := ⟨("_law_parts", none), "_law_parts", "_law_parts", defArgs s__law_parts, defBody s__law_parts, defScope s__law_parts⟩
def dM__law_shift : He.FnD := ⟨("_law_shift", none), "_law_shift", "_law_shift", defArgs s__law_shift, defBody s__law_shift, defScope s__law_shift⟩
def dM__law_set : He.FnD := ⟨("_law_set", none), "_law_set", "_law_set", defArgs s__law_set, defBody s__law_set, defScope s__law_set⟩
def dM__law_draw : He.FnD := ⟨("_law_draw", none), "_law_draw", "_law_draw", defArgs s__law_draw, defBody s__law_draw, defScope s__law_draw⟩
def dM__law_model : He.FnD := ⟨("_law_model", none), "_law_model", "_law_model", defArgs s__law_model, defBody s__law_model, defScope s__law_model⟩
def dM__law_done : He.FnD := ⟨("_law_done", none), "_law_done", "_law_done", defArgs s__law_done, defBody s__law_done, defScope s__law_done⟩
def dM__law_answer : He.FnD := ⟨("_law_answer", none), "_law_answer", "_law_answer", defArgs s__law_answer, defBody s__law_answer, defScope s__law_answer⟩
def dM__law_is_at : He.FnD := ⟨("_law_is_at", none), "_law_is_at", "_law_is_at", defArgs s__law_is_at, defBody s__law_is_at, defScope s__law_is_at⟩
def dM__law_start : He.FnD := ⟨("_law_start", none), "_law_start", "_law_start", defArgs s__law_start, defBody s__law_start, defScope s__law_start⟩
def dM__law_wild : He.FnD := ⟨("_law_wild", none), "_law_wild", "_law_wild", defArgs s__law_wild, defBody s__law_wild, defScope s__law_wild⟩
def dM__law_pick : He.FnD := ⟨("_law_pick", none), "_law_pick", "_law_pick", defArgs s__law_pick, defBody s__law_pick, defScope s__law_pick⟩
def dM_law : He.FnD := ⟨("law", none), "law", "law", defArgs s_law, defBody s_law, defScope s_law⟩
def falM0 : List (PySem.W.Frag → Bool) := [faM0, faM1, faM2, faM3, faM4, faM5, faM6, faM7, faM8, faM9, faM10, faM11, faM12, faM13, faM14, faM15, faM16, faM17, faM18, faM19, faM20, faM21, faM22, faM23, faM24, faM25, faM26, faM27, faM28, faM29, faM30, faM31, faM32, faM33, faM34, faM35, faM36, faM37, faM38, faM39]
def falM1 : List (PySem.W.Frag → Bool) := [faM40, faM41, faM42, faM43, faM44, faM45, faM46, faM47, faM48, faM49, faM50, faM51, faM52, faM53, faM54, faM55, faM56, faM57, faM58, faM59, faM60, faM61, faM62, faM63, faM64, faM65, faM66, faM67, faM68, faM69, faM70, faM71, faM72, faM73, faM74, faM75, faM76, faM77, faM78, faM79]
def falM2 : List (PySem.W.Frag → Bool) := [faM80, faM81, faM82, faM83, faM84, faM85, faM86, faM87, faM88, faM89, faM90, faM91, faM92, faM93, faM94, faM95, faM96, faM97, faM98, faM99, faM100, faM101, faM102, faM103, faM104, faM105, faM106, faM107, faM108, faM109, faM110, faM111, faM112, faM113, faM114, faM115, faM116, faM117, faM118, faM119]
def falM3 : List (PySem.W.Frag → Bool) := [faM120, faM121, faM122, faM123, faM124, faM125, faM126, faM127, faM128, faM129, faM130, faM131, faM132, faM133, faM134, faM135, faM136, faM137, faM138, faM139, faM140, faM141, faM142, faM143, faM144, faM145, faM146, faM147, faM148, faM149, faM150, faM151, faM152, faM153, faM154, faM155, faM156, faM157, faM158, faM159]
def falM4 : List (PySem.W.Frag → Bool) := [faM160, faM161, faM162, faM163, faM164, faM165, faM166, faM167, faM168, faM169, faM170, faM171, faM172, faM173, faM174, faM175, faM176, faM177, faM178, faM179, faM180, faM181, faM182, faM183, faM184, faM185, faM186, faM187, faM188, faM189, faM190, faM191, faM192, faM193, faM194, faM195, faM196, faM197, faM198, faM199]
def falM5 : List (PySem.W.Frag → Bool) := [faM200, faM201, faM202, faM203, faM204, faM205, faM206, faM207, faM208, faM209, faM210, faM211, faM212, faM213, faM214, faM215, faM216, faM217, faM218, faM219, faM220, faM221, faM222, faM223, faM224, faM225, faM226, faM227, faM228, faM229, faM230, faM231, faM232, faM233, faM234, faM235, faM236, faM237, faM238, faM239]
def falM6 : List (PySem.W.Frag → Bool) := [faM240, faM241, faM242, faM243, faM244, faM245, faM246, faM247, faM248, faM249, faM250, faM251, faM252, faM253, faM254, faM255, faM256, faM257, faM258, faM259, faM260, faM261, faM262, faM263, faM264, faM265, faM266, faM267, faM268, faM269, faM270, faM271, faM272, faM273, faM274, faM275, faM276, faM277, faM278, faM279]
def falM7 : List (PySem.W.Frag → Bool) := [faM280, faM281, faM282, faM283, faM284, faM285, faM286, faM287, faM288, faM289, faM290, faM291, faM292, faM293, faM294, faM295, faM296, faM297, faM298, faM299, faM300, faM301, faM302, faM303, faM304, faM305, faM306, faM307, faM308, faM309, faM310, faM311, faM312, faM313, faM314, faM315, faM316, faM317, faM318, faM319]
def falM8 : List (PySem.W.Frag → Bool) := [faM320, faM321, faM322, faM323]
def falM : List (PySem.W.Frag → Bool) := falM0 ++ (falM1 ++ (falM2 ++ (falM3 ++ (falM4 ++ (falM5 ++ (falM6 ++ (falM7 ++ (falM8))))))))
def fnlM0 : List He.FnD := [dM_pair_of, dM_need_post, dM_crosses, dM_kept, dM_is_cutting, dM_is_rope, dM_sides, dM_ties, dM_ropes_among, dM_lowest, dM_is_part, dM_is_length, dM_Mead___init__, dM_Mead_posts, dM_Mead_ropes, dM_Mead_lengths, dM_Mead_deeds, dM_Mead_set_out, dM_Mead_draw, dM_Mead__do, dM_checked, dM_shifted, dM__law_flow, dM__law_whole, dM__law_low, dM__law_part, dM__law_size, dM__law_many, dM__law_pair, dM__law_ears, dM__law_ropes, dM__law_sides, dM__law_ties, dM__law_sized, dM__law_tuple, dM__law_list, dM__law_dict, dM__law_parts, dM__law_shift, dM__law_set]
def fnlM1 : List He.FnD := [dM__law_draw, dM__law_model, dM__law_done, dM__law_answer, dM__law_is_at, dM__law_start, dM__law_wild, dM__law_pick, dM_law]
def fnlM : List He.FnD := fnlM0 ++ (fnlM1)
def looM0 : List PySem.Str := [Str.ofString "combinations", Str.ofString "gcd", Str.ofString "_wall", Str.ofString "__name__", Str.ofString "MeadError", Str.ofString "NoFraction", Str.ofString "NoCutting", Str.ofString "NoPost", Str.ofString "NoRope", Str.ofString "BadLength", Str.ofString "Full", Str.ofString "Few", Str.ofString "HasRopes", Str.ofString "NoBack", Str.ofString "pair_of", Str.ofString "need_post", Str.ofString "need_two", Str.ofString "LEAST_POSTS", Str.ofString "MOST_POSTS", Str.ofString "crosses", Str.ofString "kept", Str.ofString "is_cutting", Str.ofString "is_rope", Str.ofString "sides", Str.ofString "ties", Str.ofString "beside", Str.ofString "new_rope", Str.ofString "turned", Str.ofString "ropes_among", Str.ofString "lowest", Str.ofString "plus", Str.ofString "times", Str.ofString "over", Str.ofString "is_part", Str.ofString "is_length", Str.ofString "crossed", Str.ofString "measured", Str.ofString "laid", Str.ofString "reach", Str.ofString "far_posts"]
def looM1 : List PySem.Str := [Str.ofString "across", Str.ofString "stretched", Str.ofString "Mead", Str.ofString "checked", Str.ofString "shifted", Str.ofString "_law_flow", Str.ofString "_law_whole", Str.ofString "_law_low", Str.ofString "_law_add", Str.ofString "_law_mul", Str.ofString "_law_div", Str.ofString "_law_part", Str.ofString "_law_size", Str.ofString "_law_many", Str.ofString "_law_pair", Str.ofString "_law_ears", Str.ofString "_law_ropes", Str.ofString "_law_sides", Str.ofString "_law_ties", Str.ofString "_law_sized", Str.ofString "_law_beside", Str.ofString "_law_turned", Str.ofString "_law_tuple", Str.ofString "_law_list", Str.ofString "_law_dict", Str.ofString "_law_parts", Str.ofString "_law_laid", Str.ofString "_law_stretched", Str.ofString "_law_shift", Str.ofString "_law_set", Str.ofString "_law_draw", Str.ofString "_law_model", Str.ofString "_law_done", Str.ofString "_law_answer", Str.ofString "_law_is_at", Str.ofString "_law_start", Str.ofString "_law_wild", Str.ofString "_law_pick"]
def looM : List PySem.Str := looM0 ++ (looM1)
def refsM (o : Obj) : List Addr := match o.data with
  | .func fd => He.refV fd.code
  | .cls cd => [cd.ns]
  | .dict _ _ => He.refsO o
  | _ => []
def layM (g : Addr → Option Obj) (as : List Addr) : List Addr := as.flatMap fun a => match g a with
  | some o => refsM o
  | none => []
def asM4 (g : Addr → Option Obj) (as : List Addr) : List Addr := as ++ layM g as
def asM3 (g : Addr → Option Obj) (as : List Addr) : List Addr := as ++ asM4 g (layM g as)
def asM2 (g : Addr → Option Obj) (as : List Addr) : List Addr := as ++ asM3 g (layM g as)
def asM (g : Addr → Option Obj) : List Addr := mainGlobals :: asM2 g (layM g [mainGlobals])
abbrev SayT : Type := List Bool × List He.FnV
def obsM (K : PySem.W.Frag) : SayT := (falM.map (fun f => f K), fnlM.map (fun d => He.fnObs K d.at_))
def valM : SayT := (falM.map (fun _ => true), fnlM.map He.FnD.val)
def hkM : PySem.W.Hook where
  α := SayT
  obs := fun s => obsM (He.frG s.heap.get? (asM s.heap.get?))
  val := fun _ => valM
  says := fun _ h => ∃ K : PySem.W.Frag, K.In h ∧ obsM K = valM
  of := fun _ _ e => ⟨_, He.frG_in, e⟩
  keeps := fun _ _ _ z k => match z with | ⟨K, hK, c⟩ => ⟨K, PySem.W.Frag.In.keeps hK k, c⟩
def obM (s : PySem.W.SharedT) : SayT := obsM (He.frG (HandSHeadRun.getT s) (asM (HandSHeadRun.getT s)))
theorem obM_eq (s : PySem.W.SharedT) : obM s = hkM.obs s.abs := by
  have e : HandSHeadRun.getT s = s.abs.heap.get? := funext (HandSHeadRun.getT_eq s)
  show obsM (He.frG (HandSHeadRun.getT s) (asM (HandSHeadRun.getT s))) = obsM (He.frG s.abs.heap.get? (asM s.abs.heap.get?))
  rw [e]
abbrev RowM : PySem.W.OpenRow := PySem.W.OpenLaw.row PySem.Challenge.rw_postmead_k40_posts_drawn
theorem runM (w : World) : HandSHeadRun.RunEqI RowM (PySem.W.view RowM.prog [86]) hkM obM 9000 looM w := by
  unfold HandSHeadRun.RunEqI; kernel_rfl
theorem fctM {K : PySem.W.Frag} (c : falM.map (fun f => f K) = falM.map (fun _ => true)) {f : PySem.W.Frag → Bool} {j : Nat} (h : nthM falM j = some f) : f K = true := nthM_map (u := fun f => f K) (v := fun _ => true) c h
theorem fntM {K : PySem.W.Frag} (c : fnlM.map (fun d => He.fnObs K d.at_) = fnlM.map He.FnD.val) {d : He.FnD} {j : Nat} (h : nthM fnlM j = some d) : He.fnObs K d.at_ = d.val := nthM_map c h
section
variable {P : Program} {w : World} {K : PySem.W.Frag} {mg : Str → Option Value} {base : Heap}

/-! ### the row of numbers that the script makes -/
def rowOk (rs : List Int) : Prop := ∀ v ∈ rs, 0 ≤ v ∧ v < 1000000
theorem rowOk_nil : rowOk [] := fun _ h => by cases h
theorem rowOk_add {rs : List Int} {v : Int} (h : rowOk rs) (h0 : 0 ≤ v) (h1 : v < 1000000) : rowOk (rs ++ [v]) := fun x hx => by
  rcases List.mem_append.mp hx with q | q
  · exact h x q
  · rw [List.mem_singleton.mp q]
    exact ⟨h0, h1⟩
def sp_flow (K : PySem.W.Frag) : Sp := fun vs H Q _ => ∃ (a : Addr) (ns : List Int) (m : Int), vs = [.ref a, .int m] ∧ SqL K H a (ns.map V.int) ∧ ns.length ≤ 63 ∧ 0 ≤ m ∧ m ≤ 1000 ∧
  ∀ H' p (rs : List Int), Same H H' → H p = none → rs.length = m.toNat → rowOk rs → H' p = some (.lst (rs.map V.int)) → Q (.ref p) H'
def flowInv (a : Addr) (m : Int) (p : Addr) (H : Hp) : Nat → L2.St → Hp → Prop := fun i σ H' => ∃ (g : Int) (rs : List Int) (k c x : Option V),
  σ = [some (.ref a), some (.int m), some (.int g), some (.ref p), k, c, x] ∧ Same H H' ∧ H' p = some (.lst (rs.map V.int)) ∧ rs.length = i ∧ rowOk rs
theorem mod_in (x : Int) : 0 ≤ x % 1000000 ∧ x % 1000000 < 1000000 := ⟨Int.emod_nonneg _ (by decide), Int.emod_lt_of_pos _ (by decide)⟩
theorem flow_turn {a p : Addr} {m g z : Int} {H H' : Hp} {i : Nat} {rs : List Int} {k c x : Option V} (hs : Same H H') (hp : H p = none) (hrl : rs.length = i) (hro : rowOk rs) :
    flowInv a m p H (i + 1) [some (.ref a), some (.int m), some (.int g), some (.ref p), k, c, x] (upd H' p (.lst (rs.map V.int ++ [V.int (z % 1000000)]))) := by
  refine ⟨g, rs ++ [z % 1000000], k, c, x, rfl, same_put hs hp, ?_, by rw [List.length_append, hrl]; rfl, rowOk_add hro (mod_in z).1 (mod_in z).2⟩
  rw [upd_same, List.map_append]; rfl
theorem mod_at {ns : List Int} (h : 0 < ns.length) (k : Nat) : ∃ z, atI (ns.map V.int) ((k : Int) % (ns.length : Int)) = some (.int z) := by
  have hk : k % ns.length < ns.length := Nat.mod_lt _ h
  refine ⟨ns[k % ns.length], ?_⟩
  rw [← Int.natCast_emod]
  refine atI_nat ?_
  rw [List.getElem?_map, List.getElem?_eq_getElem hk]
  rfl
theorem ok__law_flow (T : Env K mg) : FnOk P w K mg base CX0 1 T.a__law_flow T.fd__law_flow ["_law_script", "_law_many_here"] (sp_flow K) := by
  refine T.F__law_flow.ok sc__law_flow (fun vs H Q E h => ?_) (fun cdv A outer s H vs Q E hr h => ?_)
  · obtain ⟨a, ns, m, rfl, _⟩ := h
    rfl
  · obtain ⟨a, ns, m, rfl, hS, hl, hm0, hm1, q⟩ := h
    refine ⟨_, (pss_cons (ps_set (i := 2) sc__law_flow.nd rfl (.inl rfl) pe_int)
 (C8.pss_cut (ps_if (PW.pt (pw_and (pt_cmpR op_gt (pe_callB (id := "len") call_len_seq (by rfl) T.m_len (by decide +kernel) (pa_cons (pv 0) pa_nil)) pe_int (nomark _)) (pw_and1 (pt_cmpR op_ge (pe_callB call_abs (by rfl) T.m_abs (by decide +kernel) (pa_cons (pe_ix ix_list (pv 0) pe_int (fun _ _ => rfl)) pa_nil)) (pe_op op_pow pe_int pe_int) (nomark _)))))
 (pss_one (ps_set (i := 2) sc__law_flow.nd rfl (.inl rfl) (pe_op op_sub (pe_callB call_abs (by rfl) T.m_abs (by decide +kernel) (pa_cons (pe_ix ix_list (pv 0) pe_int (fun _ _ => rfl)) pa_nil)) (pe_op op_pow pe_int pe_int))))
 pss_nil)
 (pss_cons (ps_set (i := 3) sc__law_flow.nd rfl (.inl rfl) (pe_lst pa_nil))
 (pss_cons (ps_for PassesOwn.never rfl (pi_range1 (by rfl) T.m_range (pa_cons (pv 1) pa_nil)) (pg_name (i := 4) sc__law_flow.nd rfl (.inl rfl))
 (pss_one (ps_if (pt_cmpR op_gt (pv 2) pe_int (nomark _))
 (pss_cons (ps_expr (pe_bm PySem.F.plainAttrs_list PySem.F.slot_list_append PySem.F.type_list_append mt_append (pv 3) (pa_cons (pe_op op_mod (pv 2) pe_int) pa_nil)))
 (pss_one (ps_set (i := 2) sc__law_flow.nd rfl (.inl rfl) (pe_op op_fdiv (pv 2) pe_int))))
 (pss_cons (ps_set (i := 5) sc__law_flow.nd rfl (.inl rfl) (pe_op op_add (pv 4) pe_int))
 (C8.pss_cut (ps_if (pt_cmpR op_gt (pe_callB (id := "len") call_len_seq (by rfl) T.m_len (by decide +kernel) (pa_cons (pv 0) pa_nil)) pe_int (nomark _))
 (pss_one (ps_set (i := 5) sc__law_flow.nd rfl (.inl rfl) (pe_ix ix_list (pv 0) (pe_op op_mod (pv 4) (pe_callB (id := "len") call_len_seq (by rfl) T.m_len (by decide +kernel) (pa_cons (pv 0) pa_nil))) (fun _ _ => rfl))))
 pss_nil)
 (pss_cons (ps_set (i := 6) sc__law_flow.nd rfl (.inl rfl) (pe_op op_mod (pe_op op_add (pe_op op_add (pe_op op_mulU (pv 5) pe_int) (pe_op op_mulU (pv 4) pe_int)) pe_int) pe_int))
 (pss_cons (ps_set (i := 6) sc__law_flow.nd rfl (.inl rfl) (pe_op op_mod (pe_op op_add (pe_op op_add (pe_op op_mulU (pv 6) pe_int) (pe_op op_mulU (pv 4) pe_int)) (pe_callB (id := "len") call_len_seq (by rfl) T.m_len (by decide +kernel) (pa_cons (pv 0) pa_nil))) pe_int))
 (pss_one (ps_expr (pe_bm PySem.F.plainAttrs_list PySem.F.slot_list_append PySem.F.type_list_append mt_append (pv 3) (pa_cons (pe_op op_mod (pe_op op_fdiv (pv 6) pe_int) pe_int) pa_nil)))))))))))
 (pss_one (ps_ret (pv 3))))))), ?_⟩
    have hlen : (ns.map V.int).length = ns.length := List.length_map _
    refine ⟨fun σ' H' => ∃ g : Int, σ' = [some (.ref a), some (.int m), some (.int g), none, none, none, none] ∧ H = H', ?_, ?_⟩
    · refine ⟨_, rfl, _, _, rfl, .inl hS, _, _, rfl, rfl, _, rfl, ite2 (fun hd => ?_) (fun _ => ⟨_, rfl, rfl⟩)⟩
      have h0 : 0 < ns.length := by
        have := of_decide_eq_true hd
        rw [hlen] at this
        omega
      obtain ⟨z, hz⟩ := mod_at h0 0
      have hz0 : atI (ns.map V.int) 0 = some (.int z) := by
        have e : ((0 : Nat) : Int) % (ns.length : Int) = 0 := by simp
        rw [e] at hz
        exact hz
      refine ⟨_, rfl, a, _, _, _, rfl, rfl, hS, hz0, _, rfl, _, _, rfl, rfl, ⟨by decide, by decide, by decide⟩, _, _, rfl, rfl, _, rfl, ?_⟩
      refine ite2 (fun _ => ?_) (fun _ => ⟨_, rfl, rfl⟩)
      exact ⟨_, rfl, a, _, _, _, rfl, rfl, hS, hz0, _, rfl, _, _, rfl, rfl, ⟨by decide, by decide, by decide⟩, _, _, rfl, rfl, _, rfl, rfl⟩
    · rintro _ _ ⟨g, rfl, rfl⟩
      refine ⟨Nat.zero_le _, fun p hp => ?_⟩
      refine ⟨_, rfl, m, rfl, by omega, by omega, for_range (lo := 0) (n := m.toNat) (flowInv a m p H) ⟨g, [], none, none, none, rfl, same_new hp, upd_same, rfl, rowOk_nil⟩ ?_ ?_⟩
      · rintro i σ H' hi ⟨g, rs, k, c, x, rfl, hs, hpl, hrl, hro⟩
        have hA := hs.seq hS
        have hsz : (rs.map V.int).length < sizeLine := by rw [List.length_map]; exact small1000 (by omega)
        refine ⟨_, rfl, _, _, rfl, rfl, _, rfl, ite2 (fun _ => ?_) (fun _ => ?_)⟩
        · refine ⟨_, rfl, .inl ⟨rfl, _, .inl (.inl hpl)⟩, _, rfl, _, _, rfl, rfl, (by show (0 : Int) < _; decide), p, _, _, rfl, rfl, hpl, hsz, ?_⟩
          refine ⟨_, rfl, _, _, rfl, rfl, ⟨by decide, by decide⟩, ?_⟩
          exact flow_turn hs hp hrl hro
        · refine ⟨_, rfl, _, _, rfl, rfl, ?_⟩
          refine ⟨fun σ' H2 => ∃ cell : Int, σ' = [some (.ref a), some (.int m), some (.int g), some (.ref p), some (.int (0 + (i : Int))), some (.int cell), x] ∧ H' = H2, ?_, ?_⟩
          · refine ⟨_, rfl, _, _, rfl, .inl hA, _, _, rfl, rfl, _, rfl, ite2 (fun hd => ?_) (fun _ => ⟨_, rfl, rfl⟩)⟩
            have h0 : 0 < ns.length := by
              have := of_decide_eq_true hd
              rw [hlen] at this
              omega
            obtain ⟨z, hz⟩ := mod_at h0 i
            refine ⟨_, rfl, _, rfl, _, rfl, _, _, rfl, .inl hA, _, _, rfl, rfl, (by rw [hlen]; omega), a, _, _, .int z, rfl, rfl, hA, ?_, ⟨z, rfl, rfl⟩⟩
            rw [hlen, Int.zero_add]
            exact hz
          · rintro _ _ ⟨cell, rfl, rfl⟩
            refine ⟨_, rfl, _, _, rfl, rfl, mulR (by decide) (by decide), _, rfl, _, _, rfl, rfl, mulR (by decide) (by decide), _, _, rfl, rfl, _, _, rfl, rfl, _, _, rfl, rfl, (by show (0 : Int) < _; decide), ?_⟩
            refine ⟨_, rfl, _, _, rfl, rfl, mulR (by decide) (by decide), _, rfl, _, _, rfl, rfl, mulR (by decide) (by decide), _, _, rfl, rfl, _, rfl, _, _, rfl, .inl hA, _, _, rfl, rfl, _, _, rfl, rfl, (by show (0 : Int) < _; decide), ?_⟩
            refine ⟨_, rfl, .inl ⟨rfl, _, .inl (.inl hpl)⟩, _, rfl, _, _, rfl, rfl, ⟨by decide, by decide⟩, _, _, rfl, rfl, (by show (0 : Int) < _; decide), p, _, _, rfl, rfl, hpl, hsz, ?_⟩
            exact flow_turn hs hp hrl hro
      · rintro σ H' ⟨g, rs, k, c, x, rfl, hs, hpl, hrl, hro⟩
        exact ⟨_, rfl, q H' p rs hs hp hrl hro hpl⟩

namespace Cb
theorem mro_cb : mroOf (.type "itertools.combinations") = pure [.type "itertools.combinations", .type "object"] := by rw [mroOf_type]; kernel_rfl
theorem look_cb : typeLookup (.type "itertools.combinations") "__new__" = pure (some (.builtin "itertools.combinations.__new__")) := by rw [typeLookup_type, builtinLookup_eq_fast]; kernel_rfl
theorem slot_cb_init : Slot "itertools.combinations" "__init__" "object.__init__" :=
  .of (owner := "object") (n := "__init__") (by rw [typeLookup_type, builtinLookup_eq_fast]; kernel_rfl) (by decide +kernel) (by decide +kernel) (by decide +kernel)
    (by first | exact .inl (by decide +kernel) | exact .inr (by decide +kernel)) (by rw [isSubtype_type]; kernel_rfl)
theorem sub_cb : isSubtype (.type "itertools.combinations") (.type "itertools.combinations") = pure true := by rw [isSubtype_type]; kernel_rfl
theorem called_cb : TypeCalled "itertools.combinations" "itertools.combinations.__new__" "object.__init__" :=
  ⟨by decide +kernel, by decide +kernel, ⟨_, _, mro_cb⟩, madeBy_type mro_cb look_cb (by decide +kernel), by decide +kernel, sub_cb, slot_cb_init⟩
theorem typeCall_cb (a b : Value) : checkTypeCall "itertools.combinations" ⟨[a, b], []⟩ = pure () := by kernel_rfl
theorem newCall_cb (a b : Value) : checkBuiltinCall "itertools.combinations.__new__" ⟨[.type "itertools.combinations", a, b], []⟩ = pure () := by kernel_rfl
theorem entry_cb_new : entryFor table "itertools.combinations.__new__" = some Builtin.«itertools.combinations.__new__» := entryFor_of_tree (by kernel_rfl)
theorem plain_cb_new : plainId "itertools.combinations.__new__" = true := by decide +kernel
theorem slot_cb_iter : Slot "itertools.combinations" "__iter__" "itertools.combinations.__iter__" :=
  .of (owner := "itertools.combinations") (n := "__iter__") (by rw [typeLookup_type, builtinLookup_eq_fast]; kernel_rfl) (by decide +kernel) (by decide +kernel) (by decide +kernel)
    (by first | exact .inl (by decide +kernel) | exact .inr (by decide +kernel)) sub_cb
theorem slot_cb_next : Slot "itertools.combinations" "__next__" "itertools.combinations.__next__" :=
  .of (owner := "itertools.combinations") (n := "__next__") (by rw [typeLookup_type, builtinLookup_eq_fast]; kernel_rfl) (by decide +kernel) (by decide +kernel) (by decide +kernel)
    (by first | exact .inl (by decide +kernel) | exact .inr (by decide +kernel)) sub_cb
theorem entry_cb_iter : entryFor table "itertools.combinations.__iter__" = some Builtin.«dict_keyiterator.__iter__» :=
  entryFor_alias (id' := "dict_keyiterator.__iter__") (by kernel_rfl) (by first | rfl | decide +kernel | (unfold String.splitOn; simp +decide [String.splitOnAux])) (by decide +kernel) (by kernel_rfl)
theorem entry_cb_next : entryFor table "itertools.combinations.__next__" = some Builtin.«itertools.combinations.__next__» := entryFor_of_tree (by kernel_rfl)
theorem owner_cb : Manifest.owners.lookup (String.ofList ['s', 'n', 'o', 'i', 't', 'a', 'n', 'i', 'b', 'm', 'o', 'c', '.', 's', 'l', 'o', 'o', 't', 'r', 'e', 't', 'i'].reverse) = some Manifest.sig_itertools_combinations := by kernel_rfl
theorem args_cb_iter (a : Value) : argsOk "itertools.combinations.__iter__" ⟨[a], []⟩ := by
  unfold argsOk; rw [signature?_of (id := "itertools.combinations.__iter__") (n := ['_', '_', 'r', 'e', 't', 'i', '_', '_']) (o := ['s', 'n', 'o', 'i', 't', 'a', 'n', 'i', 'b', 'm', 'o', 'c', '.', 's', 'l', 'o', 'o', 't', 'r', 'e', 't', 'i']) (by kernel_rfl) owner_cb]; kernel_rfl
theorem args_cb_next (a : Value) : argsOk "itertools.combinations.__next__" ⟨[a], []⟩ := by
  unfold argsOk; rw [signature?_of (id := "itertools.combinations.__next__") (n := ['_', '_', 't', 'x', 'e', 'n', '_', '_']) (o := ['s', 'n', 'o', 'i', 't', 'a', 'n', 'i', 'b', 'm', 'o', 'c', '.', 's', 'l', 'o', 'o', 't', 'r', 'e', 't', 'i']) (by kernel_rfl) owner_cb]; kernel_rfl
theorem noDict_cb : typeHasDict (.type "itertools.combinations") = false := by decide +kernel
def cbF (P : Addr) (st : Int) (res : Value) (idx : List Nat) : Array Value := (Value.ref P :: rawInt st :: res :: idx.map fun (i : Nat) => rawInt i).toArray
abbrev IsCb (h : Heap) (c P : Addr) (st : Int) (res : Value) (idx : List Nat) : Prop := h.get? c = some { cls := .type "itertools.combinations", dict := none, data := .fields (cbF P st res idx), slots := #[] }
end Cb
namespace Cb
/-- the indices behind these -/
def nxt (n : Nat) (v : List Nat) : Option (List Nat) :=
  match ((List.range v.length).reverse.find? fun q => v.getD q 0 != q + n - v.length) with
  | none => none
  | some q => some (v.take q ++ (List.range (v.length - q)).map (v.getD q 0 + 1 + ·))
section
variable {prog : Program} {w : World} {A : Around} {E : Value → Shared → Prop} {s : Shared}
theorem nums_cb (P : Addr) (st : Int) (res : Value) (idx : List Nat) : (((cbF P st res idx).toList.drop 3).map fun v => match v with | .int n _ => n.toNat | _ => 0) = idx := by
  unfold cbF
  simp only [List.drop_succ_cons, List.drop_zero, List.map_map]
  rw [show ((fun v : Value => match v with | .int n _ => n.toNat | _ => 0) ∘ fun (i : Nat) => rawInt (i : Int)) = id from funext fun i => by simp [rawInt]]
  simp
theorem cbF_size (P : Addr) (st : Int) (res : Value) (idx : List Nat) : (cbF P st res idx).size = idx.length + 3 := by unfold cbF; simp
theorem cbF_st {P : Addr} {st st' : Int} {res : Value} {idx : List Nat} : (cbF P st res idx).setIfInBounds 1 (rawInt st') = cbF P st' res idx := by unfold cbF; simp
theorem cbF_res {P : Addr} {st : Int} {res res' : Value} {idx : List Nat} : (cbF P st res idx).setIfInBounds 2 res' = cbF P st res' idx := by unfold cbF; simp
theorem cbF_idx {P : Addr} {st : Int} {res : Value} {idx idx' : List Nat} : (cbF P st res idx).extract 0 3 ++ (idx'.map fun (i : Nat) => rawInt i).toArray = cbF P st res idx' := by unfold cbF; simp
/-- the picked tuple -/
def pickT (items : Array Value) (idx : List Nat) : Obj := { cls := .type "tuple", data := .seq (idx.map fun i => items.getD i .none).toArray }
theorem hand_cb {c P : Addr} {st : Int} {res : Value} {idx ix : List Nat} {items : Array Value} {Q : Value → Shared → Prop}
    (hc : IsCb s.heap c P st res idx) (hP : IsTup s.heap P items) (hl : ix.length ≤ 100)
    (hQ : ∀ h', IsCb h' c P st (.ref s.heap.objs.size) idx → h'.get? s.heap.objs.size = some (pickT items ix) → (∀ b o, b ≠ c → s.heap.get? b = some o → h'.get? b = some o) → h'.objs.size = s.heap.objs.size + 1 →
      Q (.ref s.heap.objs.size) { s with heap := h' }) :
    wpAny (model prog w) A ((Builtin.Itertools.itPoolItems (.ref P) >>= fun xs => newTuple (ix.map fun i => xs.getD i .none)) >>= fun result => field (.ref c) 2 >>= fun before => setField (.ref c) 2 result >>= fun _ => letGo [before] [result] >>= fun _ => ret result)
      (fun fin s' => ∃ v, fin = .done (.ret v) ∧ Q v s') E s := by
  obtain ⟨oP, eP, cP, nP, dP⟩ := id hP
  refine wpAny_bind (wpAny_bind ?_)
  show wpAny _ _ (seqItems? (.ref P) >>= _) _ _ _
  refine wpAny_bind (wpAny_seqItems eP dP (wpAny_pure ?_))
  refine wpAny_newTuple ?_ (by rw [List.length_map, sizeLine_eq]; omega)
  have hlt : c < s.heap.objs.size := Heap.lt_size hc
  have hc1 : IsCb (s.heap.push { cls := .type "tuple", data := .seq (ix.map fun i => items.getD i .none).toArray }) c P st res idx := Heap.get?_push_of_some _ hc
  refine wpAny_bind (wpAny_field hc1 rfl (x := res) rfl ?_)
  refine wpAny_bind (wpAny_setField_rec hc1 (by rw [cbF_size]; omega) fun h2 hc2 hs2 => ?_)
  rw [cbF_res] at hc2
  refine wpAny_bind (wpAny_letGo (wpAny_pure ⟨_, rfl, ?_⟩))
  refine hQ h2 hc2 ?_ (fun b o hb e => (hs2.2 b hb).trans (Heap.get?_push_of_some _ e)) ?_
  · exact (hs2.2 _ (Nat.ne_of_gt hlt)).trans (Heap.get?_push_size _ rfl)
  · rw [hs2.1, Heap.size_push]
theorem next_first {c P : Addr} {res : Value} {idx : List Nat} {items : Array Value} {Q : Value → Shared → Prop}
    (hc : IsCb s.heap c P 0 res idx) (hP : IsTup s.heap P items) (hl : idx.length ≤ 100)
    (hQ : ∀ h', IsCb h' c P 1 (.ref s.heap.objs.size) idx → h'.get? s.heap.objs.size = some (pickT items idx) → (∀ b o, b ≠ c → s.heap.get? b = some o → h'.get? b = some o) → h'.objs.size = s.heap.objs.size + 1 →
      Q (.ref s.heap.objs.size) { s with heap := h' }) (hcP : c ≠ P) :
    wpAny (model prog w) A (Builtin.«itertools.combinations.__next__» ⟨[.ref c], []⟩) (fun fin s' => ∃ v, fin = .done (.ret v) ∧ Q v s') E s := by
  show wpAny _ _ (field (.ref c) 0 >>= _) _ _ _
  refine wpAny_bind (wpAny_field hc rfl (x := .ref P) rfl ?_)
  show wpAny _ _ (Builtin.Itertools.itNumbersFrom (.ref c) 3 >>= _) _ _ _
  refine wpAny_bind ?_
  show wpAny _ _ (load c >>= _) _ _ _
  refine wpAny_bind (wpAny_load hc (wpAny_pure ?_))
  generalize he : List.map _ (List.drop 3 (cbF P 0 res idx).toList) = ix
  have he2 : ix = idx := he.symm.trans (nums_cb P 0 res idx)
  subst he2
  show wpAny _ _ (Builtin.Itertools.itIntField (.ref c) 1 >>= _) _ _ _
  refine wpAny_bind ?_
  show wpAny _ _ (field (.ref c) 1 >>= _) _ _ _
  refine wpAny_bind (wpAny_field hc rfl (x := rawInt 0) rfl (wpAny_pure ?_))
  show wpAny _ _ (setField (.ref c) 1 (rawInt 1) >>= _) _ _ _
  refine wpAny_bind (wpAny_setField_rec hc (by rw [cbF_size]; omega) fun h1 hc1 hs1 => ?_)
  rw [cbF_st] at hc1
  have hP1 : IsTup h1 P items := by
    obtain ⟨o, e, r⟩ := hP
    exact ⟨o, (hs1.2 P hcP.symm).trans e, r⟩
  refine hand_cb hc1 hP1 hl fun h' a1 a2 a3 a4 => ?_
  have ez : h1.objs.size = s.heap.objs.size := hs1.1
  have a1 : IsCb h' c P 1 (.ref h1.objs.size) ix := a1
  have a2 : h'.get? h1.objs.size = some (pickT items ix) := a2
  have a4 : h'.objs.size = h1.objs.size + 1 := a4
  rw [ez] at a1 a2 a4
  show Q (.ref h1.objs.size) _
  rw [ez]
  exact hQ h' a1 a2 (fun b o hb e => a3 b o hb ((hs1.2 b hb).trans e)) a4
theorem next_more {c P : Addr} {res : Value} {idx ix : List Nat} {items : Array Value} {Q : Value → Shared → Prop}
    (hc : IsCb s.heap c P 1 res idx) (hP : IsTup s.heap P items) (hn : nxt items.size idx = some ix) (hl : ix.length ≤ 100)
    (hQ : ∀ h', IsCb h' c P 1 (.ref s.heap.objs.size) ix → h'.get? s.heap.objs.size = some (pickT items ix) → (∀ b o, b ≠ c → s.heap.get? b = some o → h'.get? b = some o) → h'.objs.size = s.heap.objs.size + 1 →
      Q (.ref s.heap.objs.size) { s with heap := h' }) (hcP : c ≠ P) :
    wpAny (model prog w) A (Builtin.«itertools.combinations.__next__» ⟨[.ref c], []⟩) (fun fin s' => ∃ v, fin = .done (.ret v) ∧ Q v s') E s := by
  obtain ⟨oP, eP, cP, nP, dP⟩ := id hP
  show wpAny _ _ (field (.ref c) 0 >>= _) _ _ _
  refine wpAny_bind (wpAny_field hc rfl (x := .ref P) rfl ?_)
  show wpAny _ _ (Builtin.Itertools.itNumbersFrom (.ref c) 3 >>= _) _ _ _
  refine wpAny_bind ?_
  show wpAny _ _ (load c >>= _) _ _ _
  refine wpAny_bind (wpAny_load hc (wpAny_pure ?_))
  generalize he : List.map _ (List.drop 3 (cbF P 1 res idx).toList) = iy
  have he2 : iy = idx := he.symm.trans (nums_cb P 1 res idx)
  subst he2
  show wpAny _ _ (Builtin.Itertools.itIntField (.ref c) 1 >>= _) _ _ _
  refine wpAny_bind ?_
  show wpAny _ _ (field (.ref c) 1 >>= _) _ _ _
  refine wpAny_bind (wpAny_field hc rfl (x := rawInt 1) rfl (wpAny_pure ?_))
  show wpAny _ _ (Builtin.Itertools.itPoolItems (.ref P) >>= _) _ _ _
  refine wpAny_bind ?_
  show wpAny _ _ (seqItems? (.ref P) >>= _) _ _ _
  refine wpAny_bind (wpAny_seqItems eP dP (wpAny_pure ?_))
  split
  · rename_i iz hz
    have hz2 : nxt items.size iy = some iz := hz
    rw [hn] at hz2
    obtain rfl := Option.some.inj hz2
    show wpAny _ _ (updateFields c _ >>= _) _ _ _
    refine wpAny_bind (wpAny_updateFields hc rfl ?_ ?_)
    · have hs1 := Heap.SameBut.update s.heap c (Obj.mapFields fun fs => fs.extract 0 3 ++ (ix.map fun (n : Nat) => rawInt n).toArray)
      have hc1 : IsCb (s.heap.update c (Obj.mapFields fun fs => fs.extract 0 3 ++ (ix.map fun (n : Nat) => rawInt n).toArray)) c P 1 res ix := by
        have := Heap.get?_update_self (Obj.mapFields fun fs => fs.extract 0 3 ++ (ix.map fun (n : Nat) => rawInt n).toArray) hc rfl
        refine this.trans ?_
        show some ({ cls := .type "itertools.combinations", dict := none, data := .fields ((cbF P 1 res iy).extract 0 3 ++ (ix.map fun (n : Nat) => rawInt n).toArray), slots := #[] } : Obj) = _
        rw [cbF_idx]
      generalize s.heap.update c _ = h1 at *
      have hP1 : IsTup h1 P items := by
        obtain ⟨o, e, r⟩ := hP
        exact ⟨o, (hs1.2 P hcP.symm).trans e, r⟩
      refine hand_cb hc1 hP1 hl fun h' a1 a2 a3 a4 => ?_
      have ez : h1.objs.size = s.heap.objs.size := hs1.1
      have a1 : IsCb h' c P 1 (.ref h1.objs.size) ix := a1
      have a2 : h'.get? h1.objs.size = some (pickT items ix) := a2
      have a4 : h'.objs.size = h1.objs.size + 1 := a4
      rw [ez] at a1 a2 a4
      show Q (.ref h1.objs.size) _
      rw [ez]
      exact hQ h' a1 a2 (fun b o hb e => a3 b o hb ((hs1.2 b hb).trans e)) a4
    · rw [cbF_idx, cbF_size, sizeLine_eq]
      omega
  · rename_i hz
    have hz2 : nxt items.size iy = none := hz
    rw [hn] at hz2
    cases hz2
theorem next_end {c P : Addr} {res : Value} {idx : List Nat} {items : Array Value} {Q : Fin → Shared → Prop}
    (hh : A.handled = none) (hc : IsCb s.heap c P 1 res idx) (hP : IsTup s.heap P items) (hn : nxt items.size idx = none)
    (hE : ∀ h' e, (∀ b o, b ≠ c → s.heap.get? b = some o → h'.get? b = some o) → (∃ o, h'.get? e = some o ∧ o.cls = .type "StopIteration") → E (.ref e) { s with heap := h' }) :
    wpAny (model prog w) A (Builtin.«itertools.combinations.__next__» ⟨[.ref c], []⟩) Q E s := by
  obtain ⟨oP, eP, cP, nP, dP⟩ := id hP
  show wpAny _ _ (field (.ref c) 0 >>= _) _ _ _
  refine wpAny_bind (wpAny_field hc rfl (x := .ref P) rfl ?_)
  show wpAny _ _ (Builtin.Itertools.itNumbersFrom (.ref c) 3 >>= _) _ _ _
  refine wpAny_bind ?_
  show wpAny _ _ (load c >>= _) _ _ _
  refine wpAny_bind (wpAny_load hc (wpAny_pure ?_))
  generalize he : List.map _ (List.drop 3 (cbF P 1 res idx).toList) = iy
  have he2 : iy = idx := he.symm.trans (nums_cb P 1 res idx)
  subst he2
  show wpAny _ _ (Builtin.Itertools.itIntField (.ref c) 1 >>= _) _ _ _
  refine wpAny_bind ?_
  show wpAny _ _ (field (.ref c) 1 >>= _) _ _ _
  refine wpAny_bind (wpAny_field hc rfl (x := rawInt 1) rfl (wpAny_pure ?_))
  show wpAny _ _ (Builtin.Itertools.itPoolItems (.ref P) >>= _) _ _ _
  refine wpAny_bind ?_
  show wpAny _ _ (seqItems? (.ref P) >>= _) _ _ _
  refine wpAny_bind (wpAny_seqItems eP dP (wpAny_pure ?_))
  split
  · rename_i iz hz
    have hz2 : nxt items.size iy = some iz := hz
    rw [hn] at hz2
    cases hz2
  · refine wpAny_bind (wpAny_setField_rec hc (by rw [cbF_size]; omega) fun h1 hc1 hs1 => ?_)
    show wpAny _ _ (newExc (.type "StopIteration") [] >>= _) _ _ _
    refine wpAny_bind ?_
    simp only [newExc, newTuple]
    refine wpAny_bind (wpAny_newObj_type ?_ (by size_fits))
    refine wpAny_bind (m := firstArgMember _ _) (wpAny_of_eq (a := Value.none) (by first | rfl | (simp only [firstArgMember]; rfl)) ?_)
    refine wpAny_newObj_type ?_ (by size_fits)
    simp only [raiseNew]
    refine wpAny_bind (wpAny_handled ?_)
    first | rw [show A.in1.handled = none from hh] | rw [hh]
    refine wpAny_bind (wpAny_pure (wpAny_throw ?_))
    exact hE _ _ (fun b o hb e => Heap.get?_push_of_some _ (Heap.get?_push_of_some _ ((hs1.2 b hb).trans e))) ⟨_, Heap.get?_push_size _ rfl, rfl⟩
theorem next_over {c P : Addr} {res : Value} {idx : List Nat} {Q : Fin → Shared → Prop}
    (hh : A.handled = none) (hc : IsCb s.heap c P 2 res idx)
    (hE : ∀ h' e, (∀ b o, b ≠ c → s.heap.get? b = some o → h'.get? b = some o) → (∃ o, h'.get? e = some o ∧ o.cls = .type "StopIteration") → E (.ref e) { s with heap := h' }) :
    wpAny (model prog w) A (Builtin.«itertools.combinations.__next__» ⟨[.ref c], []⟩) Q E s := by
  show wpAny _ _ (field (.ref c) 0 >>= _) _ _ _
  refine wpAny_bind (wpAny_field hc rfl (x := .ref P) rfl ?_)
  show wpAny _ _ (Builtin.Itertools.itNumbersFrom (.ref c) 3 >>= _) _ _ _
  refine wpAny_bind ?_
  show wpAny _ _ (load c >>= _) _ _ _
  refine wpAny_bind (wpAny_load hc (wpAny_pure ?_))
  show wpAny _ _ (Builtin.Itertools.itIntField (.ref c) 1 >>= _) _ _ _
  refine wpAny_bind ?_
  show wpAny _ _ (field (.ref c) 1 >>= _) _ _ _
  refine wpAny_bind (wpAny_field hc rfl (x := rawInt 2) rfl (wpAny_pure ?_))
  show wpAny _ _ (rule "itertools.combinations.ended" >>= _) _ _ _
  refine wpAny_bind (wpAny_rule ?_)
  show wpAny _ _ (newExc (.type "StopIteration") [] >>= _) _ _ _
  refine wpAny_bind ?_
  simp only [newExc, newTuple]
  refine wpAny_bind (wpAny_newObj_type ?_ (by size_fits))
  refine wpAny_bind (m := firstArgMember _ _) (wpAny_of_eq (a := Value.none) (by first | rfl | (simp only [firstArgMember]; rfl)) ?_)
  refine wpAny_newObj_type ?_ (by size_fits)
  simp only [raiseNew]
  refine wpAny_bind (wpAny_handled ?_)
  first | rw [show A.in1.handled = none from hh] | rw [hh]
  refine wpAny_bind (wpAny_pure (wpAny_throw ?_))
  exact hE _ _ (fun b o hb e => Heap.get?_push_of_some _ (Heap.get?_push_of_some _ e)) ⟨_, Heap.get?_push_size _ rfl, rfl⟩
end
end Cb
namespace Cb
section
variable {prog : Program} {w : World} {A : Around} {E : Value → Shared → Prop} {s : Shared}
/-- what collecting the items at r gives -/
def Col (prog : Program) (w : World) (s : Shared) (r : Addr) (Pa : Array Value → Prop) : Prop :=
  ∀ (A' : Around) (Q : List Value → Shared → Prop) (E : Value → Shared → Prop), A'.handled = none →
    (∀ (h' : Heap) (tk : Nat) (acc : Array Value), (∀ b o, s.heap.get? b = some o → h'.get? b = some o) → Pa acc → Q acc.toList { s with heap := h', toks := tk }) → wpAny (model prog w) A' (collect (.ref r)) Q E s
theorem new_cb {Q₁ : Value → Shared → Prop} {r : Addr} {k : Nat} {kt : Tok} {Pa : Array Value → Prop} (hh : A.handled = none) (hk : k ≤ 100) (hcol : Col prog w s r Pa) (hP : ∀ acc, Pa acc → acc.size ≤ 2 ^ 24)
    (h : ∀ (h' : Heap) (tk : Nat) (acc : Array Value), (∀ b o, s.heap.get? b = some o → h'.get? b = some o) → Pa acc →
      Q₁ (.ref (h'.objs.size + 1)) { s with heap := (h'.push { cls := .type "tuple", data := .seq acc }).push { cls := .type "itertools.combinations", data := .fields (cbF h'.objs.size (if k > acc.size then 2 else 0) .none (List.range k)) }, toks := tk }) :
    codeAny (model prog w) A (.call (.builtin "itertools.combinations.__new__") ⟨[.type "itertools.combinations", .ref r, .int k kt], []⟩) (wants Q₁ E) s := by
  refine codeAny_of_tree ?_
  show wpAny _ A.in1 (do checkBuiltinCall "itertools.combinations.__new__" ⟨[.type "itertools.combinations", .ref r, .int k kt], []⟩; again (.builtin "itertools.combinations.__new__" ⟨[.type "itertools.combinations", .ref r, .int k kt], []⟩)) _ _ s
  refine wpAny_bind (wpAny_of_eq (newCall_cb _ _) (wpAny_pure ⟨plainId_quiet plain_cb_new _, codeAny_builtin entry_cb_new ?_⟩))
  rw [Around.under_plainId plain_cb_new _]
  have hsub := sub_cb
  have hd := noDict_cb
  have hh1 : A.in1.handled = none := hh
  have hcol1 := fun Q E => hcol A.in1 Q E hh1
  have hT : ("itertools." ++ "combinations" : String) = "itertools.combinations" := by decide
  have h1 : ¬ ((decide ((k : Int) < -(2 ^ 63 : Int)) || decide ((k : Int) ≥ (2 ^ 63 : Int))) = true) := by
    rw [decide_eq_false (by omega), decide_eq_false (by omega)]
    decide
  have h2 : ¬ ((k : Int) < 0) := by omega
  have h3 : ¬ (Builtin.Itertools.itTooMany (k : Int) = true) := by
    unfold Builtin.Itertools.itTooMany
    rw [decide_eq_false (by omega)]
    decide
  repeat (first
      | (refine hcol1 _ _ fun h' tk acc hk' hacc => ?_)
      | wp_step
      | simp only [hT]
      | simp only [List.head?_cons, Option.some_or, List.getElem?_cons_succ, List.getElem?_cons_zero, List.length_cons, List.length_nil, List.forIn_nil]
      | (refine wpAny_ite_false (decide_eq_false h1) ?_)
      | (refine wpAny_ite_false (decide_eq_false h2) ?_)
      | (refine wpAny_ite_false (decide_eq_false h3) ?_))
  have hs : acc.toList.toArray.size ≤ sizeLine := by
    have := hP acc hacc
    rw [Array.toArray_toList, sizeLine_eq]
    omega
  refine wpAny_ite_false (decide_eq_false (Nat.not_lt.mpr hs)) ?_
  refine wpAny_newObjAsIs_type ?_
  rw [Array.toArray_toList]
  refine wpAny_pure ?_
  show wpAny _ _ (Builtin.Itertools.itNewRecord (.type "itertools.combinations") ([.ref h'.objs.size, rawInt (if (k : Int).toNat > acc.toList.length then 2 else 0), .none] ++ (List.range (k : Int).toNat).map fun (i : Nat) => rawInt i) >>= fun v => ret v) _ _ _
  rw [Int.toNat_natCast, Array.length_toList]
  refine wpAny_bind ?_
  unfold Builtin.Itertools.itNewRecord
  rw [hd]
  show wpAny _ _ (newObj (.type "itertools.combinations") (.fields (cbF h'.objs.size (if k > acc.size then 2 else 0) .none (List.range k)))) _ _ _
  refine wpAny_newObj_type ?_ (by first | exact trivial | (show (cbF _ _ _ _).size ≤ _; rw [cbF_size, List.length_range]; first | omega | (rw [sizeLine_eq]; omega)))
  refine wpAny_pure ?_
  have hz1 : (h'.push { cls := .type "tuple", data := .seq acc }).objs.size = h'.objs.size + 1 := Heap.size_push ..
  show Q₁ (.ref (h'.push { cls := .type "tuple", data := .seq acc }).objs.size) _
  rw [hz1]
  exact h h' tk acc hk' hacc
end
end Cb
namespace Cb
section
variable {prog : Program} {w : World} {A : Around} {E : Value → Shared → Prop} {s : Shared}
theorem pyIter_cb {c P : Addr} {st : Int} {res : Value} {idx : List Nat} {Q : Value → Shared → Prop} (hc : IsCb s.heap c P st res idx) (h : Q (.ref c) s) : wpAny (model prog w) A (pyIter (.ref c)) Q E s := by
  have hT : s.TypeIs (.ref c) "itertools.combinations" := ⟨_, hc, rfl⟩
  refine wpAny_pyIter_slot hT slot_cb_iter (wpAny_call_entry slot_cb_iter hT entry_cb_iter ?_ (args_cb_iter _))
  show wpAny _ _ (ret (.ref c)) _ _ s
  exact wpAny_pure ⟨_, rfl, "itertools.combinations", _, hT, slot_cb_next.lookup, h⟩
theorem pyNext_item {c : Addr} {Q : Option Value → Shared → Prop} (hT : s.TypeIs (.ref c) "itertools.combinations")
    (h : wpAny (model prog w) A.in1 (Builtin.«itertools.combinations.__next__» ⟨[.ref c], []⟩) (fun fin s' => ∃ v, fin = .done (.ret v) ∧ Q (some v) s') (fun _ _ => False) s) :
    wpAny (model prog w) A (pyNext (.ref c)) Q E s := by
  unfold pyNext
  refine wpAny_bind (wpAny_attempt (wpAny_callSpecial?_slot (name := Str.ofString "__next__") hT slot_cb_next (wpAny_call_entry slot_cb_next hT entry_cb_next (wpAny_mono h (fun fin s' q => ?_) (fun e s' q => q.elim)) (args_cb_next _))))
  obtain ⟨v, rfl, q⟩ := q
  exact ⟨v, rfl, wpAny_pure q⟩
theorem pyNext_end {c : Addr} {Q : Option Value → Shared → Prop} (hT : s.TypeIs (.ref c) "itertools.combinations")
    (h : wpAny (model prog w) A.in1 (Builtin.«itertools.combinations.__next__» ⟨[.ref c], []⟩) (fun _ _ => False) (fun e s' => ∃ a, e = .ref a ∧ (∃ o, s'.heap.get? a = some o ∧ o.cls = .type "StopIteration") ∧ Q none s') s) :
    wpAny (model prog w) A (pyNext (.ref c)) Q E s := by
  unfold pyNext
  refine wpAny_bind (wpAny_attempt (wpAny_callSpecial?_slot (name := Str.ofString "__next__") hT slot_cb_next (wpAny_call_entry slot_cb_next hT entry_cb_next (wpAny_mono h (fun fin s' q => q.elim) (fun e s' q => ?_)) (args_cb_next _))))
  obtain ⟨a, rfl, ⟨o, ho, hc⟩, q⟩ := q
  refine wpAny_bind (wpAny_isInstance (T := "StopIteration") (b := true) ⟨o, ho, hc⟩ isSubtype_stop ?_)
  exact wpAny_pure q
end
/-- the rows of places, in their order -/
structure CbL (n k : Nat) (L : List (List Nat)) : Prop where
  zero : n < k → L = []
  first : k ≤ n → L[0]? = some (List.range k)
  step : ∀ i v, L[i]? = some v → nxt n v = L[i + 1]?
  len : ∀ v ∈ L, v.length = k
def pickV (vs : List V) (ix : List Nat) : List V := ix.map fun j => vs.getD j .non
theorem vals_pick {vs : List V} {its : List Value} (h : Vals vs its) : ∀ ix : List Nat, Vals (pickV vs ix) (ix.map fun i => its.toArray.getD i .none)
  | [] => .nil
  | j :: ix => by
    refine .cons ?_ (vals_pick h ix)
    have hl := h.length
    show RelV (vs.getD j .non) (its.toArray.getD j .none)
    by_cases hj : j < vs.length
    · obtain ⟨u, hu, ru⟩ := h.get (List.getElem?_eq_getElem hj)
      have e1 : vs.getD j .non = vs[j] := by simp [List.getD_eq_getElem?_getD, List.getElem?_eq_getElem hj]
      have e2 : its.toArray.getD j .none = u := by simp [Array.getD_eq_getD_getElem?, hu]
      rw [e1, e2]
      exact ru
    · have e1 : vs.getD j .non = .non := by simp [List.getD_eq_getElem?_getD, List.getElem?_eq_none (Nat.le_of_not_lt hj)]
      have hj2 : its.length ≤ j := by omega
      have e2 : its.toArray.getD j .none = .none := by simp [Array.getD_eq_getD_getElem?, List.getElem?_eq_none hj2]
      rw [e1, e2]
      rfl
/-- the tuples of these places of vs, each new -/
def ItC (vs : List V) (L : List (List Nat)) : It :=
  ⟨fun i _ => i < L.length, fun i H v H' => ∃ T ix, L[i]? = some ix ∧ v = .ref T ∧ H T = none ∧ H' = upd H T (.tup (pickV vs ix)), fun i _ => L.length ≤ i⟩
def CbSt (c P : Addr) (its : List Value) (n k : Nat) (L : List (List Nat)) (i : Nat) (h : Heap) : Prop :=
  c ≠ P ∧ IsTup h P its.toArray ∧ ((n < k ∧ ∃ res ix, IsCb h c P 2 res ix) ∨ (k ≤ n ∧ ((i = 0 ∧ ∃ res, IsCb h c P 0 res (List.range k)) ∨ ∃ res ix j, i = j + 1 ∧ L[j]? = some ix ∧ IsCb h c P 1 res ix)))
theorem cbSt_at {c P : Addr} {its : List Value} {n k : Nat} {L : List (List Nat)} {i : Nat} {h : Heap} (st : CbSt c P its n k L i h) : ∃ (sv : Int) (res : Value) (ix : List Nat), IsCb h c P sv res ix := by
  obtain ⟨_, _, ⟨_, res, ix, e⟩ | ⟨_, ⟨_, res, e⟩ | ⟨res, ix, _, _, _, e⟩⟩⟩ := st
  · exact ⟨_, _, _, e⟩
  · exact ⟨_, _, _, e⟩
  · exact ⟨_, _, _, e⟩
theorem turn_cb {P : Program} {w : World} {K : PySem.W.Frag} {tg : Expr} {c p : Addr} {vs : List V} {its : List Value} {k : Nat} {L : List (List Nat)} (hv : Vals vs its) (hL : CbL vs.length k L) (hk : k ≤ 100) :
    Turn P w K tg (ItC vs L) [c, p] c (CbSt c p its vs.length k L) where
  mem := by simp
  obj := fun i h st b hb => by
    obtain ⟨sv, res, ix, e⟩ := cbSt_at st
    obtain ⟨_, ⟨o, e2, _, n, d2⟩, _⟩ := st
    have e' : b = c ∨ b = p := by simpa using hb
    rcases e' with q | q
    · rw [q]; exact ⟨_, e, fun v q => nomatch q⟩
    · rw [q]; exact ⟨o, e2, fun v q => by rw [d2] at q; cases q⟩
  keep := fun i h h' st hk => by
    obtain ⟨n1, ⟨o, e2, r2⟩, st⟩ := st
    refine ⟨n1, ⟨o, hk p (by simp) _ e2, r2⟩, ?_⟩
    rcases st with ⟨z, res, ix, e⟩ | ⟨z, ⟨z2, res, e⟩ | ⟨res, ix, j, z2, z3, e⟩⟩
    · exact .inl ⟨z, res, ix, hk c (by simp) _ e⟩
    · exact .inr ⟨z, .inl ⟨z2, res, hk c (by simp) _ e⟩⟩
    · exact .inr ⟨z, .inr ⟨res, ix, j, z2, z3, hk c (by simp) _ e⟩⟩
  item := by
    intro X hP hw hK hc i pins s σ H E I hf st hg
    subst hP hw hK
    have hg : i < L.length := hg
    have hvl := hv.length
    obtain ⟨sv, res0, ix0, e0⟩ := cbSt_at st
    have hT : s.TypeIs (.ref c) "itertools.combinations" := ⟨_, e0, rfl⟩
    have hlt : c < s.heap.objs.size := Heap.lt_size e0
    obtain ⟨n1, ht, st⟩ := st
    have hplt : p < s.heap.objs.size := ht.lt
    refine pyNext_item hT ?_
    have fin : ∀ ix h', L[i]? = some ix → IsCb h' c p 1 (.ref s.heap.objs.size) ix → h'.get? s.heap.objs.size = some (pickT its.toArray ix) → (∀ b o, b ≠ c → s.heap.get? b = some o → h'.get? b = some o) → h'.objs.size = s.heap.objs.size + 1 →
        ∃ u, some (Value.ref s.heap.objs.size) = some u ∧
          wpAny (model X.prog X.w) X.A (letOwnedTupleGo tg (.ref c) u) (fun _ s2 => ∃ x H', Inv X pins σ H' s2 ∧ RelV x u ∧ (ItC vs L).yld i H x H' ∧ CbSt c p its vs.length k L (i + 1) s2.heap ∧ ∀ b ∈ [c, p], H' b = none) E { s with heap := h' } := by
      intro ix h' hi a1 a2 a3 a4
      have hix : ix.length = k := hL.len ix (List.mem_of_getElem? hi)
      have hkn : k ≤ vs.length := by
        rcases Nat.lt_or_ge vs.length k with z | z
        · rw [hL.zero z] at hi; cases hi
        · exact z
      have new : ObjOk X.prog X.w (upd H s.heap.objs.size (.tup (pickV vs ix))) h' s.heap.objs.size (.tup (pickV vs ix)) :=
        ⟨by unfold pickV; rw [List.length_map, sizeLine_eq]; omega, _, vals_pick hv ix, ⟨_, a2, rfl, _, rfl⟩⟩
      have I1 : Inv X pins σ (upd H s.heap.objs.size (.tup (pickV vs ix))) { s with heap := h' } :=
        I.turnedNew (t' := s.toks) (ch := [c, p]) (fun b o hb q => a3 b o (fun q' => hb (by simp [q'])) q) hf (Nat.le_refl _) new
      refine ⟨_, rfl, go_of (s := { s with heap := h' }) (n := "itertools.combinations") a1 rfl rfl (by decide) ⟨.ref s.heap.objs.size, _, I1, rfl, ⟨_, ix, hi, rfl, I.hok.fresh (Nat.le_refl _), rfl⟩, ⟨n1, ?_, .inr ⟨hkn, .inr ⟨_, ix, i, rfl, hi, a1⟩⟩⟩, fun b hb => ?_⟩⟩
      · obtain ⟨o, e, r⟩ := ht
        exact ⟨o, a3 p o n1.symm e, r⟩
      · have hbl : b < s.heap.objs.size := by
          have e' : b = c ∨ b = p := by simpa using hb
          rcases e' with q | q
          · rw [q]; exact hlt
          · rw [q]; exact hplt
        rw [upd_ne (Nat.ne_of_lt hbl)]
        exact (hf b hb).1
    rcases st with ⟨z, _⟩ | ⟨z, ⟨z2, res, e⟩ | ⟨res, ix, j, z2, z3, e⟩⟩
    · rw [hL.zero z] at hg
      exact absurd hg (Nat.not_lt_zero _)
    · subst z2
      refine next_first (Q := fun v s' => (fun r s1 => ∃ u, r = some u ∧ wpAny (model X.prog X.w) X.A (letOwnedTupleGo tg (.ref c) u) (fun _ s2 => ∃ x H', Inv X pins σ H' s2 ∧ RelV x u ∧ (ItC vs L).yld 0 H x H' ∧ CbSt c p its vs.length k L (0 + 1) s2.heap ∧ ∀ b ∈ [c, p], H' b = none) E s1) (some v) s') e ht (by rw [List.length_range]; omega) (fun h' a1 a2 a3 a4 => fin _ h' (hL.first z) a1 a2 a3 a4) n1
    · subst z2
      have hs := hL.step j ix z3
      rw [List.getElem?_eq_getElem hg] at hs
      have hsz : its.toArray.size = vs.length := by rw [List.size_toArray, hvl]
      refine next_more (Q := fun v s' => (fun r s1 => ∃ u, r = some u ∧ wpAny (model X.prog X.w) X.A (letOwnedTupleGo tg (.ref c) u) (fun _ s2 => ∃ x H', Inv X pins σ H' s2 ∧ RelV x u ∧ (ItC vs L).yld (j + 1) H x H' ∧ CbSt c p its vs.length k L (j + 1 + 1) s2.heap ∧ ∀ b ∈ [c, p], H' b = none) E s1) (some v) s') (ix := L[j + 1]) e ht (by rw [hsz]; exact hs) (by rw [hL.len _ (List.getElem_mem hg)]; omega) (fun h' a1 a2 a3 a4 => fin _ h' (List.getElem?_eq_getElem hg) a1 a2 a3 a4) n1
  done := by
    intro X hP hw hK hc i pins s σ H E I hf st hg
    subst hP hw hK
    have hg : L.length ≤ i := hg
    have hvl := hv.length
    obtain ⟨sv, res0, ix0, e0⟩ := cbSt_at st
    have hT : s.TypeIs (.ref c) "itertools.combinations" := ⟨_, e0, rfl⟩
    obtain ⟨n1, ht, st⟩ := st
    have hh : X.A.in1.handled = none := I.ok.hd hc
    refine pyNext_end hT ?_
    have fin : ∀ (h' : Heap), (∀ b o, b ≠ c → s.heap.get? b = some o → h'.get? b = some o) → (none : Option Value) = none ∧ Inv X pins σ H { s with heap := h' } := fun h' hk =>
      ⟨rfl, I.turnedL (t' := s.toks) (ch := [c, p]) (fun b o hb q => hk b o (fun q' => hb (by simp [q'])) q) hf⟩
    rcases st with ⟨z, res, ix, e⟩ | ⟨z, ⟨z2, res, e⟩ | ⟨res, ix, j, z2, z3, e⟩⟩
    · exact next_over hh e fun h' a hk ha => ⟨a, rfl, ha, fin h' hk⟩
    · subst z2
      have := hL.first z
      rw [List.getElem?_eq_none hg] at this
      cases this
    · subst z2
      have hs := hL.step j ix z3
      rw [List.getElem?_eq_none hg] at hs
      have hsz : its.toArray.size = vs.length := by rw [List.size_toArray, hvl]
      exact next_end hh e ht (by rw [hsz]; exact hs) fun h' a hk ha => ⟨a, rfl, ha, fin h' hk⟩
  self := fun A i s Q E st h => by
    obtain ⟨sv, res, ix, e⟩ := cbSt_at st
    exact pyIter_cb e h
end Cb
namespace Cb
def iCbRg (te : L2.St → Hp → (Int → Int → Hp → Prop) → Prop) (k : Nat) : TI := fun σ H R => te σ H fun a b H1 => RgOk a b ∧ ∃ L, CbL (b - a).toNat k L ∧ R (ItC (rgV a b) L) H1
def iCbL (K : PySem.W.Frag) (te : TE) (k : Nat) : TI := fun σ H R => te σ H fun x H1 => ∃ a xs, x = .ref a ∧ SqL K H1 a xs ∧ xs.length ≤ 1000 ∧ ∃ L, CbL xs.length k L ∧ R (ItC xs L) H1
section
variable {X : Cx}
/-- the record once made -/
theorem made_cb {tg : Expr} {pins : List (Addr × Obj)} {σ : L2.St} {H1 : Hp} {s2 : Shared} {R : It → Hp → Prop} {vs : List V} {acc : Array Value} {k : Nat} {L : List (List Nat)} {h' : Heap} {tk : Nat} (I : Inv X pins σ H1 s2) (hk : k ≤ 100)
    (kp : ∀ b o, s2.heap.get? b = some o → h'.get? b = some o) (hv : Vals vs acc.toList) (hL : CbL vs.length k L) (q : R (ItC vs L) H1) :
    (Shared.TypeIs { s2 with heap := (h'.push { cls := .type "tuple", data := .seq acc }).push { cls := .type "itertools.combinations", data := .fields (cbF h'.objs.size (if k > acc.size then 2 else 0) .none (List.range k)) }, toks := tk } (.ref (h'.objs.size + 1)) "itertools.combinations") ∧
    wpAny (model X.prog X.w) X.A (pyIter (.ref (h'.objs.size + 1))) (PIE X pins σ tg R) X.xe { s2 with heap := (h'.push { cls := .type "tuple", data := .seq acc }).push { cls := .type "itertools.combinations", data := .fields (cbF h'.objs.size (if k > acc.size then 2 else 0) .none (List.range k)) }, toks := tk } := by
  have hz1 : (h'.push { cls := .type "tuple", data := .seq acc }).objs.size = h'.objs.size + 1 := Heap.size_push ..
  have g1 : ((h'.push { cls := .type "tuple", data := .seq acc }).push { cls := .type "itertools.combinations", data := .fields (cbF h'.objs.size (if k > acc.size then 2 else 0) .none (List.range k)) }).get? (h'.push { cls := .type "tuple", data := .seq acc }).objs.size = some _ := Heap.get?_push_size _ rfl
  rw [hz1] at g1
  have g2 : ((h'.push { cls := .type "tuple", data := .seq acc }).push { cls := .type "itertools.combinations", data := .fields (cbF h'.objs.size (if k > acc.size then 2 else 0) .none (List.range k)) }).get? h'.objs.size = some _ := Heap.get?_push_of_some _ (Heap.get?_push_size _ rfl)
  have kp2 : ∀ b o, s2.heap.get? b = some o → ((h'.push { cls := .type "tuple", data := .seq acc }).push { cls := .type "itertools.combinations", data := .fields (cbF h'.objs.size (if k > acc.size then 2 else 0) .none (List.range k)) }).get? b = some o := fun b o e => Heap.get?_push_of_some _ (Heap.get?_push_of_some _ (kp b o e))
  have I1 : Inv X pins σ H1 { s2 with heap := h', toks := tk } := I.kept kp
  have I2 : Inv X pins σ H1 { s2 with heap := (h'.push { cls := .type "tuple", data := .seq acc }).push { cls := .type "itertools.combinations", data := .fields (cbF h'.objs.size (if k > acc.size then 2 else 0) .none (List.range k)) }, toks := tk } := I.kept kp2
  have hvl : vs.length = acc.size := by rw [hv.length, Array.length_toList]
  refine ⟨⟨_, g1, rfl⟩, pyIter_cb g1 ⟨h'.objs.size + 1, [h'.objs.size + 1, h'.objs.size], CbSt (h'.objs.size + 1) h'.objs.size acc.toList vs.length k L, ItC vs L, H1, rfl, I2, turn_cb hv hL hk, ⟨Nat.succ_ne_self _, ⟨_, g2, rfl, 0, by rw [Array.toArray_toList]⟩, ?_⟩, fun b hb => ?_, q⟩⟩
  · by_cases hz : k > acc.size
    · exact .inl ⟨by omega, _, _, g1.trans (by rw [if_pos hz])⟩
    · exact .inr ⟨by omega, .inl ⟨rfl, _, g1.trans (by rw [if_neg hz])⟩⟩
  · have e' : b = h'.objs.size + 1 ∨ b = h'.objs.size := by simpa using hb
    have hle : h'.objs.size ≤ b := by
      rcases e' with z | z
      · rw [z]; exact Nat.le_succ _
      · rw [z]; exact Nat.le_refl _
    exact I1.fpOk hle (I1.hok.fresh hle)
theorem pi_cbRg {tg e : Expr} {te : L2.St → Hp → (Int → Int → Hp → Prop) → Prop} {k j : Nat} {p pos cpos : Pos} (hk : k ≤ 100) (hc : X.calm = true) (hg : Gl X "combinations") (hm : X.mg "combinations" = some (.type "itertools.combinations")) (he : PRg X e te)
    (hs : starEach [e, .Constant (.int k) j cpos] X.env = (false, eval e X.env) :: starEach [.Constant (.int k) j cpos] X.env := by rfl) (hs2 : starEach [.Constant (.int k) j cpos] X.env = (false, eval (.Constant (.int k) j cpos) X.env) :: starEach [] X.env := by rfl)
    (hpl : (backTo pos (starEach [.Constant (.int k) j cpos] X.env)).any (·.1) = false := by rfl) : PI X tg (.Call (.Name "combinations" p) [e, .Constant (.int k) j cpos] [] pos) (iCbRg te k) := by
  refine ⟨fun pins s σ H R I h => ?_⟩
  refine wpAny_Call_Name_kw (ld_glob I hg hm (callWith_type1 (args_cons (thn (he pins s σ H _ I h) fun x s1 ⟨r, a, b, t, u, v, H1, ex, hr, I1, ok, L, hL, q⟩ => args_cons (wpAny_Constant_int (args_nil ?_)) hs2) hs) hs hpl))
  subst ex
  obtain ⟨b1, b2, b3, b4, b5⟩ := ok
  have I2 : Inv X pins σ H1 { s1 with toks := s1.toks + 1 } := I1.tok _
  have hh : X.A.handled = none := I1.ok.hd hc
  refine callType_codes (Q₁ := fun obj s₁ => s₁.TypeIs obj "itertools.combinations" ∧ wpAny (model X.prog X.w) X.A (pyIter obj) (PIE X pins σ tg R) X.xe s₁) called_cb (typeCall_cb _ _) F.entry_object_init
    (new_cb (A := X.A.in1) (Pa := fun acc => ItemsOf (fun i v => ∃ t, v = .int (a + i * 1) t) acc (b - a).toNat) hh hk (fun A' Q E hh' h => collect_range hh' hr (small_one b1 b2 b3 b4) (rangeSize_nat a b) b5 h) (fun acc ha => by rw [ha.1]; exact b5)
      fun h' tk acc kp ha => made_cb I2 hk kp (vals_rg ha) (by rw [rgV_length]; exact hL) q) fun obj s₁ h₁ => ?_
  exact ⟨h₁.1, F.args_object_init_3 obj _ _, object_init_meets called_cb.init.lookup called_cb.made (by decide) X.prog X.w X.A.in1 _ s₁ ⟨h₁.1, rfl, h₁.2⟩⟩
theorem pi_cbL {tg e : Expr} {te : TE} {k j : Nat} {p pos cpos : Pos} (hk : k ≤ 100) (hc : X.calm = true) (hg : Gl X "combinations") (hm : X.mg "combinations" = some (.type "itertools.combinations")) (he : PE X e te)
    (hs : starEach [e, .Constant (.int k) j cpos] X.env = (false, eval e X.env) :: starEach [.Constant (.int k) j cpos] X.env := by rfl) (hs2 : starEach [.Constant (.int k) j cpos] X.env = (false, eval (.Constant (.int k) j cpos) X.env) :: starEach [] X.env := by rfl)
    (hpl : (backTo pos (starEach [.Constant (.int k) j cpos] X.env)).any (·.1) = false := by rfl) : PI X tg (.Call (.Name "combinations" p) [e, .Constant (.int k) j cpos] [] pos) (iCbL X.K te k) := by
  refine ⟨fun pins s σ H R I h => ?_⟩
  refine wpAny_Call_Name_kw (ld_glob I hg hm (callWith_type1 (args_cons (thn (he.run pins s σ H _ I h) fun x s1 ⟨v, H1, I1, rv, a, xs, ex, hq, hlen, L, hL, q⟩ => args_cons (wpAny_Constant_int (args_nil ?_)) hs2) hs) hs hpl))
  subst ex
  cases rv
  obtain ⟨its, rvs, pl, hz⟩ := I1.list hq
  obtain ⟨o, ho, hcl, n, hd⟩ := pl.isList
  have I2 : Inv X pins σ H1 { s1 with toks := s1.toks + 1 } := I1.tok _
  have hh : X.A.handled = none := I1.ok.hd hc
  have hil : its.length = xs.length := rvs.length.symm
  refine callType_codes (Q₁ := fun obj s₁ => s₁.TypeIs obj "itertools.combinations" ∧ wpAny (model X.prog X.w) X.A (pyIter obj) (PIE X pins σ tg R) X.xe s₁) called_cb (typeCall_cb _ _) F.entry_object_init
    (new_cb (A := X.A.in1) (Pa := fun acc => acc = its.toArray) hh hk (fun A' Q E hh' h => wpAny_collect_seq a (.inl rfl) ho hcl hd (fun h' hk' => h h' _ its.toArray hk' rfl) (by rw [List.size_toArray, hil]; exact hz)) (fun acc ha => by rw [ha, List.size_toArray]; omega)
      fun h' tk acc kp ha => made_cb (acc := acc) (vs := xs) I2 hk kp (by rw [ha]; exact rvs) hL q) fun obj s₁ h₁ => ?_
  exact ⟨h₁.1, F.args_object_init_3 obj _ _, object_init_meets called_cb.init.lookup called_cb.made (by decide) X.prog X.w X.A.in1 _ s₁ ⟨h₁.1, rfl, h₁.2⟩⟩
end
/-! ### which places -/
def cmb : Nat → List Nat → List (List Nat)
  | 0, _ => [[]]
  | _ + 1, [] => []
  | k + 1, x :: xs => (cmb k xs).map (x :: ·) ++ cmb (k + 1) xs
def cbB (n k : Nat) : Bool :=
  (!decide (n < k) || (cmb k (List.range n)).isEmpty) && (!decide (k ≤ n) || (cmb k (List.range n))[0]? == some (List.range k)) &&
  ((List.range (cmb k (List.range n)).length).all fun i => nxt n ((cmb k (List.range n)).getD i []) == (cmb k (List.range n))[i + 1]?) && ((cmb k (List.range n)).all fun v => v.length == k)
theorem cbl_of {n k : Nat} (h : cbB n k = true) : CbL n k (cmb k (List.range n)) := by
  unfold cbB at h
  rw [Bool.and_eq_true, Bool.and_eq_true, Bool.and_eq_true] at h
  obtain ⟨⟨⟨h1, h2⟩, h3⟩, h4⟩ := h
  refine ⟨fun z => ?_, fun z => ?_, fun i v e => ?_, fun v hv => ?_⟩
  · rw [decide_eq_true z] at h1
    exact List.isEmpty_iff.mp h1
  · rw [decide_eq_true z] at h2
    exact eq_of_beq h2
  · have hi : i < (cmb k (List.range n)).length := (List.getElem?_eq_some_iff.mp e).1
    have := List.all_eq_true.mp h3 i (List.mem_range.mpr hi)
    rw [List.getD_eq_getElem?_getD, e] at this
    exact eq_of_beq this
  · exact eq_of_beq (List.all_eq_true.mp h4 v hv)
theorem cb_all : ((List.range 13).all fun n => (List.range 4).all fun k => cbB n k) = true := by decide +kernel
theorem cbl {n k : Nat} (hn : n ≤ 12) (hk : k ≤ 3) : CbL n k (cmb k (List.range n)) :=
  cbl_of (List.all_eq_true.mp (List.all_eq_true.mp cb_all n (List.mem_range.mpr (by omega))) k (List.mem_range.mpr (by omega)))
end Cb

/-! ### lists of pairs of whole numbers -/
inductive All2 {α β : Type} (R : α → β → Prop) : List α → List β → Prop
  | nil : All2 R [] []
  | cons {x : α} {y : β} {xs : List α} {ys : List β} : R x y → All2 R xs ys → All2 R (x :: xs) (y :: ys)
theorem All2.length {α β : Type} {R : α → β → Prop} {xs : List α} {ys : List β} (h : All2 R xs ys) : xs.length = ys.length := by
  induction h with
  | nil => rfl
  | cons _ _ ih => rw [List.length_cons, List.length_cons, ih]
theorem All2.mono {α β : Type} {R R' : α → β → Prop} {xs : List α} {ys : List β} (h : All2 R xs ys) (f : ∀ x y, R x y → R' x y) : All2 R' xs ys := by
  induction h with
  | nil => exact .nil
  | cons a _ ih => exact .cons (f _ _ a) ih
theorem All2.app {α β : Type} {R : α → β → Prop} {xs xs' : List α} {ys ys' : List β} (h : All2 R xs ys) (h' : All2 R xs' ys') : All2 R (xs ++ xs') (ys ++ ys') := by
  induction h with
  | nil => exact h'
  | cons a _ ih => exact .cons a ih
theorem All2.at {α β : Type} {R : α → β → Prop} {xs : List α} {ys : List β} (h : All2 R xs ys) : ∀ {i : Nat} {x : α}, xs[i]? = some x → ∃ y, ys[i]? = some y ∧ R x y := by
  induction h with
  | nil => intro i x e; cases e
  | cons a _ ih =>
    intro i x e
    cases i with
    | zero => obtain rfl := Option.some.inj e; exact ⟨_, rfl, a⟩
    | succ i => exact ih e
theorem All2.at' {α β : Type} {R : α → β → Prop} {xs : List α} {ys : List β} (h : All2 R xs ys) : ∀ {i : Nat} {y : β}, ys[i]? = some y → ∃ x, xs[i]? = some x ∧ R x y := by
  induction h with
  | nil => intro i x e; cases e
  | cons a _ ih =>
    intro i x e
    cases i with
    | zero => obtain rfl := Option.some.inj e; exact ⟨_, rfl, a⟩
    | succ i => exact ih e
theorem All2.take {α β : Type} {R : α → β → Prop} {xs : List α} {ys : List β} (h : All2 R xs ys) : ∀ i, All2 R (xs.take i) (ys.take i) := by
  induction h with
  | nil => intro i; rw [List.take_nil, List.take_nil]; exact .nil
  | cons a _ ih =>
    intro i
    cases i with
    | zero => exact .nil
    | succ i => exact .cons a (ih i)
theorem All2.drop {α β : Type} {R : α → β → Prop} {xs : List α} {ys : List β} (h : All2 R xs ys) : ∀ i, All2 R (xs.drop i) (ys.drop i) := by
  induction h with
  | nil => intro i; rw [List.drop_nil, List.drop_nil]; exact .nil
  | cons a t ih =>
    intro i
    cases i with
    | zero => exact .cons a t
    | succ i => exact ih i
theorem All2.one {α β : Type} {R : α → β → Prop} {x : α} {y : β} (h : R x y) : All2 R [x] [y] := .cons h .nil
def PrAt (K : PySem.W.Frag) (H : Hp) (x : V) (p : Int × Int) : Prop := ∃ t, x = V.ref t ∧ H t = some (.tup [.int p.1, .int p.2])
abbrev PrL (K : PySem.W.Frag) (H : Hp) (xs : List V) (l : List (Int × Int)) : Prop := All2 (PrAt K H) xs l
theorem PrAt.mono {H H' : Hp} {x : V} {p : Int × Int} (s : Same H H') (h : PrAt K H x p) : PrAt K H' x p := by
  obtain ⟨t, e, ht⟩ := h
  exact ⟨t, e, s _ _ ht⟩
theorem PrL.mono {H H' : Hp} {xs : List V} {l : List (Int × Int)} (s : Same H H') (h : PrL K H xs l) : PrL K H' xs l := All2.mono h fun _ _ q => q.mono s
/-- all tuples of H stand in H' -/
def TupS (H H' : Hp) : Prop := ∀ t xs, H t = some (.tup xs) → H' t = some (.tup xs)
theorem TupS.of {H H' : Hp} (s : Same H H') : TupS H H' := fun t xs e => s _ _ e
theorem TupS.trans {H H' H2 : Hp} (s : TupS H H') (s' : TupS H' H2) : TupS H H2 := fun t xs e => s' _ _ (s _ _ e)
theorem TupS.put {H : Hp} {p : Addr} {xs : List V} {o : HO} (h : H p = some (.lst xs)) : TupS H (upd H p o) := fun t ys e => by
  rw [upd_ne (ne_of e h (fun z => nomatch z))]
  exact e
theorem PrL.tups {H H' : Hp} {xs : List V} {l : List (Int × Int)} (s : TupS H H') (h : PrL K H xs l) : PrL K H' xs l := All2.mono h fun _ _ ⟨t, e, ht⟩ => ⟨t, e, s _ _ ht⟩
theorem PrAt.sq {H : Hp} {x : V} {p : Int × Int} (h : PrAt K H x p) : ∃ t, x = V.ref t ∧ SqT K H t [.int p.1, .int p.2] := by
  obtain ⟨t, e, ht⟩ := h
  exact ⟨t, e, .inl (.inl ht)⟩
/-! pairs in order -/
def le2 (p q : Int × Int) : Prop := p.1 < q.1 ∨ (p.1 = q.1 ∧ p.2 ≤ q.2)
instance (p q : Int × Int) : Decidable (le2 p q) := by unfold le2; exact inferInstance
theorem le2_anti {p q : Int × Int} (h : le2 p q) (h' : le2 q p) : p = q := by
  unfold le2 at h h'
  exact Prod.ext (by omega) (by omega)
theorem le2_total (p q : Int × Int) : le2 p q ∨ le2 q p := by unfold le2; omega
theorem le2_trans {p q r : Int × Int} (h : le2 p q) (h' : le2 q r) : le2 p r := by unfold le2 at *; omega
def sort2 (l : List (Int × Int)) : List (Int × Int) := l.mergeSort fun p q => decide (le2 p q)
theorem sort2_perm (l : List (Int × Int)) : (sort2 l).Perm l := List.mergeSort_perm _ _
theorem sort2_sorted (l : List (Int × Int)) : (sort2 l).Pairwise le2 := by
  have := List.pairwise_mergeSort (le := fun p q => decide (le2 p q)) (fun a b c h1 h2 => decide_eq_true (le2_trans (of_decide_eq_true h1) (of_decide_eq_true h2)))
    (fun a b => by rcases le2_total a b with h | h <;> simp [h]) l
  exact this.imp fun h => of_decide_eq_true h
theorem sort2_uniq {l m : List (Int × Int)} (h1 : m.Perm l) (h2 : m.Pairwise le2) : m = sort2 l :=
  List.Perm.eq_of_pairwise (le := le2) (fun _ _ _ _ => le2_anti) h2 (sort2_sorted l) (h1.trans (sort2_perm l).symm)
theorem sort2_self {l : List (Int × Int)} (h : l.Pairwise le2) : sort2 l = l := (sort2_uniq (List.Perm.refl _) h).symm
theorem sort2_mem {l : List (Int × Int)} {p : Int × Int} : p ∈ sort2 l ↔ p ∈ l := (sort2_perm l).mem_iff
theorem sort2_len (l : List (Int × Int)) : (sort2 l).length = l.length := (sort2_perm l).length_eq
theorem sort2_eq {l m : List (Int × Int)} (h : l.Perm m) : sort2 l = sort2 m := sort2_uniq ((sort2_perm l).trans h) (sort2_sorted l)
theorem sort2_nodup {l : List (Int × Int)} (h : l.Nodup) : (sort2 l).Nodup := (sort2_perm l).nodup_iff.mpr h
/-! sorted -/
def kOf (H : Hp) : V → Int × Int
  | .ref t => match H t with
    | some (.tup [.int i, .int j]) => (i, j)
    | _ => (0, 0)
  | _ => (0, 0)
theorem PrAt.k {H : Hp} {x : V} {p : Int × Int} (h : PrAt K H x p) : kOf H x = p := by
  obtain ⟨t, rfl, ht⟩ := h
  show (match H t with | some (.tup [.int i, .int j]) => (i, j) | _ => (0, 0)) = p
  rw [ht]
theorem PrL.k {H : Hp} {xs : List V} {l : List (Int × Int)} (h : PrL K H xs l) : xs.map (kOf H) = l := by
  induction h with
  | nil => rfl
  | cons a _ ih => rw [List.map_cons, a.k, ih]
theorem PrL.mem {H : Hp} {xs : List V} {l : List (Int × Int)} (h : PrL K H xs l) : ∀ x ∈ xs, PrAt K H x (kOf H x) := by
  induction h with
  | nil => intro x hx; cases hx
  | cons a _ ih =>
    intro x hx
    rcases List.mem_cons.mp hx with e | hx
    · subst e; rw [a.k]; exact a
    · exact ih x hx
theorem PrL.of_k {H : Hp} : ∀ {ys : List V}, (∀ x ∈ ys, PrAt K H x (kOf H x)) → PrL K H ys (ys.map (kOf H))
  | [], _ => .nil
  | y :: ys, h => .cons (h y (List.mem_cons_self ..)) (PrL.of_k fun x hx => h x (List.mem_cons_of_mem _ hx))
def rSort2 (K : PySem.W.Frag) : List V → Hp → VK → Prop := fun vs H Q => ∃ (a : Addr) (xs : List V) (l : List (Int × Int)), vs = [V.ref a] ∧ SqL K H a xs ∧ PrL K H xs l ∧
  ∀ ys p, PrL K H ys (sort2 l) → H p = none → Q (.ref p) (upd H p (.lst ys))
theorem cr_sort2 {X : Cx} : CallR X (.builtin "sorted") (rSort2 X.K) := by
  intro pins s σ H vs us Q I r h
  obtain ⟨a, xs, l, rfl, hs, hP, q⟩ := h
  refine cr_sortedPO pins s σ H _ us Q I r ⟨a, xs, kOf H, rfl, hs, fun x hx => hP.mem x hx, fun ys p h1 h2 hp => q ys p ?_ hp⟩
  have hm := PrL.of_k (K := X.K) (H := H) (ys := ys) fun x hx => hP.mem x (h2.perm.mem_iff.mp hx)
  have e : ys.map (kOf H) = sort2 l := by
    refine sort2_uniq ?_ ?_
    · rw [← hP.k]; exact h2.perm.map _
    · rw [List.pairwise_map]
      refine List.Pairwise.imp (fun {x y} h => ?_) h1
      have := SrtO.lexB_no.mp h
      unfold le2
      omega
  rw [e] at hm
  exact hm
/-! in, ==, != -/
def dat2 (p : Int × Int) : PyData := .tuple [.int p.1, .int p.2]
theorem dat2_eqv (p q : Int × Int) : PyData.eqv (dat2 p) (dat2 q) = decide (p = q) := by
  obtain ⟨a, b⟩ := p
  obtain ⟨c, d⟩ := q
  show PyData.eqvAll [.int a, .int b] [.int c, .int d] = _
  simp only [PyData.eqvAll, PyData.eqv, Bool.and_true]
  by_cases h1 : a = c <;> by_cases h2 : b = d <;> simp [h1, h2]
theorem dat2s_eqv : ∀ l m : List (Int × Int), PyData.eqvAll (l.map dat2) (m.map dat2) = decide (l = m)
  | [], [] => by simp [PyData.eqvAll]
  | [], _ :: _ => by simp [PyData.eqvAll]
  | _ :: _, [] => by simp [PyData.eqvAll]
  | p :: l, q :: m => by
    rw [List.map_cons, List.map_cons, PySem.W.eqv_all_cons, dat2_eqv, dat2s_eqv l m]
    by_cases e : p = q
    · subst e; simp
    · simp [e]
theorem PrAt.dp {H : Hp} {x : V} {p : Int × Int} (h : PrAt K H x p) : Dp K H x (dat2 p) := by
  obtain ⟨t, rfl, ht⟩ := h
  exact .tup (.inl (.inl ht)) (.cons (.int _) (.cons (.int _) .nil))
theorem PrL.dp {H : Hp} {xs : List V} {l : List (Int × Int)} (h : PrL K H xs l) : DpAll K H xs (l.map dat2) := by
  induction h with
  | nil => exact .nil
  | cons a _ ih => exact .cons a.dp ih
theorem dat2_sh (p : Int × Int) : SeqAt.shaped (dat2 p) = true := rfl
theorem dat2_sh2 (l : List (Int × Int)) (h : l.length ≤ 200) : SeqAt.shaped (.list (l.map dat2)) = true := by
  have key : ∀ l : List (Int × Int), PyData.canLayAll0 (l.map dat2) = true ∧ PyData.depthAll (l.map dat2) ≤ 1 := by
    intro l
    induction l with
    | nil => exact ⟨rfl, by decide⟩
    | cons p l ih =>
      refine ⟨?_, ?_⟩
      · show (PyData.canLay0 (dat2 p) && PyData.canLayAll0 (l.map dat2)) = true
        rw [ih.1]; rfl
      · show max (PyData.depth (dat2 p)) (PyData.depthAll (l.map dat2)) ≤ 1
        have : PyData.depth (dat2 p) = 1 := rfl
        have := ih.2
        omega
  unfold SeqAt.shaped
  have h1 : PyData.canLay0 (.list (l.map dat2)) = true := by
    exact (key l).1
  have h2 : PyData.depth (.list (l.map dat2)) ≤ 64 := by
    have := (key l).2
    simp only [PyData.depth]
    omega
  rw [h1, decide_eq_true h2]
  rfl
theorem any_eqv (l : List (Int × Int)) (p : Int × Int) : ((l.map dat2).any fun z => PyData.eqv z (dat2 p)) = decide (p ∈ l) := by
  induction l with
  | nil => simp
  | cons q l ih =>
    rw [List.map_cons, List.any_cons, ih, dat2_eqv]
    by_cases e : q = p
    · subst e; simp
    · simp [e, Ne.symm e]
def rIn2 (K : PySem.W.Frag) (neg : Bool) : R2 := fun x y H Q => ∃ (p : Int × Int) (a : Addr) (xs : List V) (l : List (Int × Int)), PrAt K H x p ∧ y = .ref a ∧ SqL K H a xs ∧ PrL K H xs l ∧ l.length ≤ 200 ∧ Q (.bl (if neg then !decide (p ∈ l) else decide (p ∈ l))) H
section
variable {X : Cx}
theorem op_in2 (hu : X.A.units + 65 < cLine) : OpR X (compareOp .In) (rIn2 X.K false) := by
  intro pins s σ H x y v u Q I rx ry h
  obtain ⟨p, a, xs, l, hp, rfl, hs, hP, hl, q⟩ := h
  refine op_inD hu pins s σ H _ _ v u Q I rx ry ⟨_, _, hp.dp, .lst hs hP.dp, dat2_sh p, dat2_sh2 l hl, ?_⟩
  rw [any_eqv]
  exact q
theorem op_notIn2 (hu : X.A.units + 65 < cLine) : OpR X (compareOp .NotIn) (rIn2 X.K true) := by
  intro pins s σ H x y v u Q I rx ry h
  obtain ⟨p, a, xs, l, hp, rfl, hs, hP, hl, q⟩ := h
  refine op_notInD hu pins s σ H _ _ v u Q I rx ry ⟨_, _, hp.dp, .lst hs hP.dp, dat2_sh p, dat2_sh2 l hl, ?_⟩
  rw [any_eqv]
  exact q
def rEqL2 (K : PySem.W.Frag) (neg : Bool) : R2 := fun x y H Q => ∃ (a b : Addr) (xs ys : List V) (l m : List (Int × Int)), x = .ref a ∧ y = .ref b ∧ SqL K H a xs ∧ PrL K H xs l ∧ SqL K H b ys ∧ PrL K H ys m ∧ l.length ≤ 200 ∧ m.length ≤ 200 ∧ Q (.bl (if neg then !decide (l = m) else decide (l = m))) H
theorem op_eqL2 (hu : X.A.units + 64 < cLine) : OpR X (compareOp .Eq) (rEqL2 X.K false) := by
  intro pins s σ H x y v u Q I rx ry h
  obtain ⟨a, b, xs, ys, l, m, rfl, rfl, hs, hP, hs', hP', hl, hm, q⟩ := h
  refine op_eqD hu pins s σ H _ _ v u Q I rx ry ⟨_, _, .lst hs hP.dp, .lst hs' hP'.dp, dat2_sh2 l hl, dat2_sh2 m hm, ?_⟩
  show Q (.bl (PyData.eqvAll _ _)) H
  rw [dat2s_eqv]
  exact q
theorem op_neL2 (hu : X.A.units + 64 < cLine) : OpR X (compareOp .NotEq) (rEqL2 X.K true) := by
  intro pins s σ H x y v u Q I rx ry h
  obtain ⟨a, b, xs, ys, l, m, rfl, rfl, hs, hP, hs', hP', hl, hm, q⟩ := h
  refine op_neD hu pins s σ H _ _ v u Q I rx ry ⟨_, _, .lst hs hP.dp, .lst hs' hP'.dp, dat2_sh2 l hl, dat2_sh2 m hm, ?_⟩
  show Q (.bl (!PyData.eqvAll _ _)) H
  rw [dat2s_eqv]
  exact q
def rEqP2 (K : PySem.W.Frag) (neg : Bool) : R2 := fun x y H Q => ∃ (p q : Int × Int), PrAt K H x p ∧ PrAt K H y q ∧ Q (.bl (if neg then !decide (p = q) else decide (p = q))) H
theorem op_eqP2 (hu : X.A.units + 64 < cLine) : OpR X (compareOp .Eq) (rEqP2 X.K false) := by
  intro pins s σ H x y v u Q I rx ry h
  obtain ⟨p, q, hp, hq, k⟩ := h
  refine op_eqD hu pins s σ H _ _ v u Q I rx ry ⟨_, _, hp.dp, hq.dp, dat2_sh p, dat2_sh q, ?_⟩
  rw [dat2_eqv]
  exact k
theorem op_neP2 (hu : X.A.units + 64 < cLine) : OpR X (compareOp .NotEq) (rEqP2 X.K true) := by
  intro pins s σ H x y v u Q I rx ry h
  obtain ⟨p, q, hp, hq, k⟩ := h
  refine op_neD hu pins s σ H _ _ v u Q I rx ry ⟨_, _, hp.dp, hq.dp, dat2_sh p, dat2_sh q, ?_⟩
  rw [dat2_eqv]
  exact k
end
theorem Room.units2 {k : Nat} {A : Around} (r : Room k A) : A.units + 65 < cLine := by have := r.un; omega

/-! ### min, max of a tuple of two whole numbers -/
section
variable {X : Cx}
def rMin2T (K : PySem.W.Frag) (f : Int → Int → Int) : List V → Hp → VK → Prop := fun vs H Q => ∃ (a : Addr) (i j : Int), vs = [V.ref a] ∧ SqT K H a [.int i, .int j] ∧ Q (.int (f i j)) H
theorem tup_of {h : Heap} {a : Addr} {its : Array Value} (t : IsTup h a its) : h.IsTuple a its := t
theorem reads_int {h : Heap} {v : Value} {n : Int} {bs : List Addr} (r : Reads h v (.int n) bs) : ∃ t, v = .int n t := by
  cases r with
  | int => exact ⟨_, rfl⟩
theorem alike2 (i j : Int) : PySem.W.AlikeAll [.int i, .int j] := by
  refine ⟨fun x hx y hy => ?_, fun x hx => ?_⟩
  · simp only [List.mem_cons, List.not_mem_nil, or_false] at hx hy
    rcases hx with rfl | rfl <;> rcases hy with rfl | rfl <;> rfl
  · simp only [List.mem_cons, List.not_mem_nil, or_false] at hx
    rcases hx with rfl | rfl <;> exact fun z => nomatch z
theorem cr_min2T (hc : X.calm = true) (hu : X.A.units + 64 < cLine) : CallR X (.builtin "min") (rMin2T X.K min) := by
  intro pins s σ H vs us Q I r h
  obtain ⟨a, i, j, rfl, hs, q⟩ := h
  obtain ⟨its, rv, hl, _⟩ := I.tuple hs
  rw [Vals.ref1 r]
  obtain ⟨u1, u2, rfl, ⟨t1, e1⟩, ⟨t2, e2⟩⟩ := vals2 rv
  subst e1; subst e2
  refine PySem.W.min_tuple_data (x := .int i) (xs := [.int j]) (I.ok.hd hc) (tup_of hl) (.cons (Reads.int i t1) (.cons (Reads.int j t2) .nil)) (alike2 i j) ?_ fun k v h' tk bs hk hr hh => ?_
  · show X.A.units + 1 + 0 < cLine
    omega
  · have hm : PySem.W.minD (.int i) [.int j] = .int (min i j) := PySem.W.minD_ints i [j]
    rw [hm] at hr
    obtain ⟨t, rfl⟩ := reads_int hr
    exact ⟨.int _, H, I.kept hh, ⟨_, rfl⟩, q⟩
theorem cr_max2T (hc : X.calm = true) (hu : X.A.units + 64 < cLine) : CallR X (.builtin "max") (rMin2T X.K max) := by
  intro pins s σ H vs us Q I r h
  obtain ⟨a, i, j, rfl, hs, q⟩ := h
  obtain ⟨its, rv, hl, _⟩ := I.tuple hs
  rw [Vals.ref1 r]
  obtain ⟨u1, u2, rfl, ⟨t1, e1⟩, ⟨t2, e2⟩⟩ := vals2 rv
  subst e1; subst e2
  refine PySem.W.max_tuple_data (x := .int i) (xs := [.int j]) (I.ok.hd hc) (tup_of hl) (.cons (Reads.int i t1) (.cons (Reads.int j t2) .nil)) (alike2 i j) ?_ fun k v h' tk bs hk hr hh => ?_
  · show X.A.units + 1 + 0 < cLine
    omega
  · have hm : PySem.W.maxD (.int i) [.int j] = .int (max i j) := PySem.W.maxD_ints i [j]
    rw [hm] at hr
    obtain ⟨t, rfl⟩ := reads_int hr
    exact ⟨.int _, H, I.kept hh, ⟨_, rfl⟩, q⟩
end

/-! ### dicts with tuples as keys: walks over items and keys, len, dict(d) -/
section
variable {P : Program} {w : World} {K : PySem.W.Frag} {X : Cx}
theorem frzT2 {pins : List (Addr × Obj)} {σ : L2.St} {H : Hp} {s : Shared} {d : Addr} {o : Obj} {kvs : List (List Key × V)} (I : Inv X pins σ H s) (h : H d = some (.frz o (.dT kvs))) :
    (d == sysModules) = false ∧ s.heap.get? d = some o ∧ o.ExactDict ∧ ∃ (es : Array DictEntry) (ep : Nat), o.data = .dict es ep ∧ es.size = kvs.length ∧
      ∀ (i : Nat) (k : List Key) (v : V), kvs[i]? = some (k, v) → ∃ (en : DictEntry) (q : Addr), es[i]? = some en ∧ en.key = .ref q ∧ H q = some (.tup (k.map kV)) ∧ RelV v en.val := by
  obtain ⟨hd, z, hs, xs, pr, o', es, ep, ho, hx, hdt, he, _⟩ := I.hok d _ h
  rw [hd] at ho
  cases ho
  refine ⟨hs, hd, hx, es, ep, hdt, ?_, fun i k v e => ?_⟩
  · have l1 : es.size = xs.length := PySem.size_of_entries he
    have l2 : kvs.length = xs.length := Paired.length pr
    omega
  · obtain ⟨b, hb, e1, e2, e3⟩ := paired_get pr e
    have q := PySem.entry_at he i
    rw [hb] at q
    exact ⟨_, b.2.1, q, rfl, e2, e3⟩
/-- the pairs, each a new tuple -/
def ItiT (d : Addr) (o : Obj) (kvs : List (List Key × V)) : It :=
  ⟨fun i H => H d = some (.frz o (.dT kvs)) ∧ i < kvs.length, fun i H x H' => ∃ (T : Addr) (k : List Key) (v : V) (q : Addr), kvs[i]? = some (k, v) ∧ x = .ref T ∧ H T = none ∧ H q = some (.tup (k.map kV)) ∧ H' = upd H T (.tup [.ref q, v]), fun i H => H d = some (.frz o (.dT kvs)) ∧ kvs.length ≤ i⟩
theorem turn_itemsT {d : Addr} {o : Obj} {es : Array DictEntry} {ep : Nat} {kvs : List (List Key × V)} {elts : List Expr} {kk : Nat} {tpos : Pos} (it : Addr) (hod : o.data = .dict es ep) :
    Turn P w K (.Tuple elts kk tpos) (ItiT d o kvs) [it] it (fun i h => ∃ ok ov, IsItemIter h it d i kvs.length ep ok ov) where
  mem := by simp
  obj := fun i h st b hb => by
    have e : b = it := by simpa using hb
    subst e
    obtain ⟨ok, ov, e⟩ := st
    exact ⟨_, e, fun v z => nomatch z⟩
  keep := fun i h h' st k => let ⟨ok, ov, e⟩ := st; ⟨ok, ov, k it (by simp) _ e⟩
  item := by
    intro X hP hw hK hc i pins s σ H E I hf st hg
    subst hP hw hK
    obtain ⟨hd, hi⟩ := hg
    obtain ⟨hs, hgd, hx, es', ep', hdt, hsz, ent⟩ := frzT2 I hd
    obtain ⟨rfl, rfl⟩ := dict_ep hod hdt
    obtain ⟨⟨k, v⟩, hkv⟩ : ∃ p, kvs[i]? = some p := ⟨kvs[i], List.getElem?_eq_getElem hi⟩
    obtain ⟨en, q, hen, hkey, hq, rv⟩ := ent i k v hkv
    obtain ⟨ok, ov, he⟩ := st
    rw [← hsz] at he
    have hi' : i < es'.size := by omega
    have een : es'[i] = en := by rw [Array.getElem?_eq_getElem hi'] at hen; exact Option.some.inj hen
    have hlt : it < s.heap.objs.size := Heap.lt_size he
    refine wpAny_pyNext_items_item_raw he ⟨o, hgd, hx, hdt⟩ hi' fun h' ho hT hz hk => ?_
    rw [een, hkey] at ho hT
    refine ⟨_, rfl, wpAny_letOwnedTupleGo_items (s := { s with heap := h' }) ho fun h'' he' sb => ?_⟩
    have hT2 : h''.get? s.heap.objs.size = some { cls := .type "tuple", data := .seq #[.ref q, en.val] } := (sb.2 _ (Nat.ne_of_gt hlt)).trans hT
    have new : ObjOk X.prog X.w (upd H s.heap.objs.size (.tup [.ref q, v])) h'' s.heap.objs.size (.tup [.ref q, v]) :=
      ⟨by show 2 ≤ sizeLine; decide, [.ref q, en.val], .cons rfl (.cons rv .nil), ⟨_, hT2, rfl, _, rfl⟩⟩
    have I1 : Inv X pins σ (upd H s.heap.objs.size (.tup [.ref q, v])) { s with heap := h'' } :=
      I.turnedNew (t' := s.toks) (ch := [it]) (fun b ob hb e => (sb.2 b (by simpa using hb)).trans (hk b ob (by simpa using hb) e)) hf (Nat.le_refl _) new
    refine ⟨.ref s.heap.objs.size, _, I1, rfl, ⟨_, k, v, q, hkv, rfl, I.hok.fresh (Nat.le_refl _), hq, rfl⟩, ⟨.ref q, en.val, ?_⟩, fun b hb => ?_⟩
    · rw [← hsz]; exact he'
    · have e : b = it := by simpa using hb
      rw [e, upd_ne (Nat.ne_of_lt hlt)]
      exact (hf it (by simp)).1
  done := by
    intro X hP hw hK hc i pins s σ H E I hf st hg
    subst hP hw hK
    obtain ⟨hd, hi⟩ := hg
    obtain ⟨f0, f1, f2, f3, f4, f5⟩ := hf it (by simp)
    obtain ⟨hs, hgd, hx, es', ep', hdt, hsz, ent⟩ := frzT2 I hd
    obtain ⟨rfl, rfl⟩ := dict_ep hod hdt
    obtain ⟨ok, ov, he⟩ := st
    rw [← hsz] at he
    exact wpAny_pyNext_items_end_raw (I.ok.hd hc) he ⟨o, hgd, hx, hdt⟩ (by omega) fun h' eb => ⟨rfl, I.turned (t' := s.toks) (fun b ob hb e => eb b ob hb e) f0 f1 f3 f4 f5⟩
  self := fun A i s Q E st h => let ⟨_, _, e⟩ := st; PySem.W.kcp_self e h
def iItemsT (td : TE) : TI := fun σ H R => td σ H fun x H1 => ∃ d o kvs, x = .ref d ∧ H1 d = some (.frz o (.dT kvs)) ∧ R (ItiT d o kvs) H1
def iKeysMT (td : TE) : TI := fun σ H R => td σ H fun x H1 => ∃ d o kvs, x = .ref d ∧ H1 d = some (.frz o (.dT kvs)) ∧ R (Itkt d o kvs) H1
variable {tg e : Expr} {td : TE} {apos cpos : Pos}
theorem pi_itemsT {elts : List Expr} {kk : Nat} {tpos : Pos} (he : PE X e td) (hbase : attributeBase e "items" X.env (eval e X.env) = eval e X.env := by rfl) (hline : (apos.endLine == cpos.line) = true := by rfl) :
    PI X (.Tuple elts kk tpos) (.Call (.Attribute e "items" apos) [] [] cpos) (iItemsT td) := by
  refine ⟨fun pins s σ H R I h => ?_⟩
  refine wpAny_Call_method (T := "dict") (id := "dict.items") hbase rfl hline PySem.F.plainAttrs_dict PySem.F.slot_dict_items PySem.F.type_dict_items (thn (he.run pins s σ H _ I h) fun u s1 ⟨x, H1, I1, rx, d, o, kvs, ex, hd, q⟩ => ?_)
  subst ex
  obtain rfl : u = Value.ref d := rx
  obtain ⟨hs, hgd, hx, es, ep, hdt, hsz, ent⟩ := I1.frzT hd
  have raw : s1.heap.DictRaw d es ep := ⟨o, hgd, hx, hdt⟩
  refine ⟨raw.typeIs, fun b q => ?_, ?_⟩
  · cases q
    exact ⟨o, hgd, hx.2.1⟩
  have I2 : Inv X pins σ H1 { s1 with heap := s1.heap.push { cls := .type "dict_items", data := .fields #[.ref d] } } := I1.kept (t' := s1.toks) fun b ob q => Heap.get?_push_of_some _ q
  have fin : wpAny (model X.prog X.w) X.A (pyIter (.ref s1.heap.objs.size)) (PIE X pins σ (.Tuple elts kk tpos) R) X.xe { s1 with heap := s1.heap.push { cls := .type "dict_items", data := .fields #[.ref d] } } := by
    refine wpAny_pyIter_items_raw (d := d) (es := es) (ep := ep) ⟨_, Heap.get?_push_size _ rfl, rfl, rfl⟩ (raw.push _) (pi_one (tk := s1.toks) I2 _ (turn_itemsT _ hdt) ⟨.none, .none, ?_⟩ q)
    rw [← hsz]
    exact Heap.get?_push_size _ rfl
  show wpAny _ _ (callWith cpos (.builtin "dict.items") [.ref d] [] []) _ X.xe s1
  exact method_meetsIn PySem.F.slot_dict_items PySem.F.entry_dict_items rfl (PySem.evalArgs_none ⟨rfl, raw.typeIs, PySem.F.args_dict_items_1 _, _, meets_dict_items_raw d hs, ⟨⟨es, ep, raw⟩, fin⟩⟩)
theorem pi_keysMT (he : PE X e td) (hbase : attributeBase e "keys" X.env (eval e X.env) = eval e X.env := by rfl) (hline : (apos.endLine == cpos.line) = true := by rfl) : PI X tg (.Call (.Attribute e "keys" apos) [] [] cpos) (iKeysMT td) := by
  refine ⟨fun pins s σ H R I h => ?_⟩
  refine wpAny_Call_method (T := "dict") (id := "dict.keys") hbase rfl hline PySem.F.plainAttrs_dict PySem.F.slot_dict_keys PySem.F.type_dict_keys (thn (he.run pins s σ H _ I h) fun u s1 ⟨x, H1, I1, rx, d, o, kvs, ex, hd, q⟩ => ?_)
  subst ex
  obtain rfl : u = Value.ref d := rx
  obtain ⟨hs, hgd, hx, es, ep, hdt, hsz, ent⟩ := I1.frzT hd
  have raw : s1.heap.DictRaw d es ep := ⟨o, hgd, hx, hdt⟩
  refine ⟨raw.typeIs, fun b q => ?_, ?_⟩
  · cases q
    exact ⟨o, hgd, hx.2.1⟩
  have I2 : Inv X pins σ H1 { s1 with heap := s1.heap.push { cls := .type "dict_keys", data := .fields #[.ref d] } } := I1.kept (t' := s1.toks) fun b ob q => Heap.get?_push_of_some _ q
  have fin : wpAny (model X.prog X.w) X.A (pyIter (.ref s1.heap.objs.size)) (PIE X pins σ tg R) X.xe { s1 with heap := s1.heap.push { cls := .type "dict_keys", data := .fields #[.ref d] } } := by
    refine wpAny_pyIter_keys_raw (d := d) (es := es) (ep := ep) ⟨_, Heap.get?_push_size _ rfl, rfl, rfl⟩ (raw.push _) (pi_one (tk := s1.toks) I2 _ (turn_keysT _ hdt) ⟨_, Heap.get?_push_size _ rfl, rfl, ?_⟩ q)
    rw [hsz] <;> rfl
  show wpAny _ _ (callWith cpos (.builtin "dict.keys") [.ref d] [] []) _ X.xe s1
  exact method_meetsIn PySem.F.slot_dict_keys PySem.F.entry_dict_keys rfl (PySem.evalArgs_none ⟨rfl, raw.typeIs, PySem.F.args_dict_keys_1 _, _, meets_dict_keys_raw d hs, ⟨⟨es, ep, raw⟩, fin⟩⟩)
/-- len(d) -/
theorem len_rawT {s : Shared} {A : Around} {E : Value → Shared → Prop} {d : Addr} {es : Array DictEntry} {ep : Nat} {Q : Value → Shared → Prop} (hd : (d == sysModules) = false) (hm : s.heap.DictRaw d es ep) (hfit : (es.size : Int) < 2 ^ 63)
    (h : Q (.int es.size (s.toks + 1)) { s with toks := s.toks + 1 + 1 }) : wpAny (model P w) A (call (.builtin "len") [.ref d]) Q E s := by
  refine Calls.call_function_entry kind_len plain_len entry_len (args_len1 _) ?_
  unfold Builtin.«len»
  refine wpAny_bind (m := oneArg "len" _) (wpAny_pure ?_)
  refine wpAny_bind (m := callSpecial? (.ref d) (Str.ofString "__len__")) (wpAny_callSpecial?_slot (name := Str.ofString "__len__") hm.typeIs PySem.F.slot_dict_len
    (call_meetsIn PySem.F.slot_dict_len hm.typeIs PySem.F.entry_dict_len (PySem.F.args_dict_len_1 _) (meets_dict_len_raw d hd) ⟨es, ep, hm, ?_⟩))
  show wpAny _ _ _ _ _ { s with toks := s.toks + 1 }
  refine wpAny_bind (wpAny_holding (wpAny_pure ?_))
  refine wpAny_bind (wpAny_letGo ?_)
  show wpAny _ _ (if ((es.size : Nat) : Int) < 0 then _ else _) _ _ _
  rw [if_neg (by omega)]
  show wpAny _ _ (if ((es.size : Nat) : Int) ≥ 2 ^ 63 then _ else _) _ _ _
  rw [if_neg (by omega)]
  exact wpAny_bind (wpAny_mkInt (wpAny_pure ⟨_, rfl, h⟩))
theorem call_lenT : CallR X (.builtin "len") (fun xs H Q => ∃ a kvs, xs = [V.ref a] ∧ H a = some (.dT kvs) ∧ Q (.int kvs.length) H) := by
  intro pins s σ H xs us Q I r h
  obtain ⟨a, kvs, rfl, ha, q⟩ := h
  obtain ⟨u, rfl, ru⟩ := vals1 r
  cases ru
  obtain ⟨z, hs, xs, pr, o, es, ep, ho, hx, hdt, he, hn⟩ := (show ObjOk X.prog X.w H s.heap a (.dT kvs) from I.hok a _ ha)
  have l1 : es.size = xs.length := PySem.size_of_entries he
  have l2 : kvs.length = xs.length := Paired.length pr
  refine len_rawT hs ⟨o, ho, hx, hdt⟩ (by rw [sizeLine_eq] at z; omega) ?_
  rw [l1, ← l2]
  exact ⟨.int kvs.length, H, I.tok _, ⟨_, rfl⟩, q⟩
/-- dict(d) where no two keys hash alike -/
theorem dict_ofT {s : Shared} {A : Around} {E : Value → Shared → Prop} {κ : Type} [DecidableEq κ] {knd : HeapKind P w κ} {o : Addr} {more : List (κ × Addr × Value)} {Q : Value → Shared → Prop} (hu : knd.room A.in1.in1) (hoS : (o == sysModules) = false) (ho : s.heap.DictOfH knd o more)
    (hty : ∀ x ∈ more, s.TypeIs (.ref x.2.1) "tuple") (hap : (more.map fun x => knd.hash x.1).Nodup) (hsz : more.length ≤ sizeLine) (hst : ∀ o', ∀ x ∈ more, knd.is (s.heap.push o') x.1 x.2.1)
    (h : ∀ h', h'.DictOfH knd s.heap.objs.size more → Heap.SameBut s.heap.objs.size (s.heap.push { cls := .type "dict", data := .dict #[] }) h' → Q (.ref s.heap.objs.size) { s with heap := h' }) :
    wpAny (model P w) A (call (.type "dict") [.ref o]) Q E s := by
  refine callType_codes (Q₁ := fun obj s₁ => obj = .ref s.heap.objs.size ∧ s₁ = { s with heap := s.heap.push { cls := .type "dict", data := .dict #[] } }) PySem.F.kt_called_dict (PySem.F.kt_typeCall_dict_1 _) PySem.F.entry_dict_init (kt_code_dict_new _ ⟨rfl, rfl⟩) ?_
  rintro obj s₁ ⟨rfl, rfl⟩
  have hnew : (s.heap.push { cls := .type "dict", data := .dict #[] }).DictOfH knd s.heap.objs.size [] := ⟨_, #[], 0, Heap.get?_push_size _ rfl, ⟨rfl, rfl, rfl⟩, rfl, rfl, (fun x hx => nomatch hx), List.Pairwise.nil⟩
  have ho' : (s.heap.push { cls := .type "dict", data := .dict #[] }).DictOfH knd o more := ho.at' (fun b q => Heap.get?_push_of_some _ q) (hst _)
  have hdo : s.heap.objs.size ≠ o := fun e => absurd ho.lt_size (by rw [e]; exact Nat.lt_irrefl _)
  refine ⟨hnew.typeIs, PySem.F.args_dict_init_2 _ _, ?_⟩
  unfold Builtin.«dict.__init__»
  refine wpAny_bind ?_
  unfold Builtin.Dict.selfAndRest
  refine wpAny_bind (wpAny_notOrdered_dict hnew.typeIs ?_)
  show wpAny _ _ (pure (s.heap.objs.size, [Value.ref o])) _ _ _
  refine wpAny_pure ?_
  show wpAny _ _ (Builtin.Dict.updateFrom "dict.__init__" s.heap.objs.size (.ref o) [] .none) _ _ _
  unfold Builtin.Dict.updateFrom
  refine wpAny_bind (wpAny_typeOf ho'.typeIs ?_)
  rw [if_neg (by decide)]
  refine wpAny_bind ?_
  unfold Builtin.Dict.merge
  refine wpAny_bind ?_
  unfold Builtin.Dict.readDirectly
  refine wpAny_bind (wpAny_isInstance ho'.typeIs isSubtype_dict_dict ?_)
  simp only [Bool.not_true, Bool.false_eq_true, if_false]
  refine wpAny_bind (wpAny_specialOf ho'.typeIs PySem.F.slot_dict_iter.lookup (wpAny_pure ?_))
  simp only [beq_self_eq_true, if_true]
  refine wpAny_bind (wpAny_pure ?_)
  refine wpAny_mergeDict_heap (hsz := by simpa using hsz) hu hdo hoS hnew ho' (.inr ⟨fun x hx => let ⟨ob, e, c⟩ := hty x hx; ⟨ob, Heap.get?_push_of_some _ e, c⟩, hap⟩) fun h' hd' _ hs' => ?_
  show wpAny _ _ (Builtin.Dict.addKeywords s.heap.objs.size [] >>= _) _ _ _
  rw [storedAllH_nil_of_nodup more ho.nodup] at hd'
  exact wpAny_bind (wpAny_pure (wpAny_pure ⟨rfl, h h' hd' hs'⟩))
/-- the key of a pair -/
def pk (p : Int × Int) : List Key := [.inl p.1, .inl p.2]
theorem pk_inj {p q : Int × Int} (h : pk p = pk q) : p = q := by
  unfold pk at h
  injection h with h1 h2
  injection h2 with h2 _
  exact Prod.ext (Sum.inl.inj h1) (Sum.inl.inj h2)
def hashP (p : Int × Int) : Int := reduceHash (Builtin.Tuple.tupleHashOf [hashInt p.1, hashInt p.2])
theorem hash_pk (P : Program) (w : World) (p : Int × Int) : (tupleKind (mixKind P w)).hash (pk p) = hashP p := by
  show tupleKeyHash (mixKind P w) (pk p) = _
  unfold tupleKeyHash hashP pk
  rfl
def smallPs : List (Int × Int) := (List.range 169).map fun i => (((i / 13 : Nat) : Int), ((i % 13 : Nat) : Int))
theorem hashes_apart : (smallPs.map hashP).Nodup := by decide +kernel
theorem nodup_at {α : Type} {l : List α} (h : l.Nodup) {i j : Nat} {x : α} (hi : l[i]? = some x) (hj : l[j]? = some x) : i = j := by
  have li := (List.getElem?_eq_some_iff.mp hi)
  have lj := (List.getElem?_eq_some_iff.mp hj)
  obtain ⟨li, ei⟩ := li
  obtain ⟨lj, ej⟩ := lj
  exact (List.getElem_inj h).mp (ei.trans ej.symm)
def smallP (p : Int × Int) : Prop := 0 ≤ p.1 ∧ p.1 < 13 ∧ 0 ≤ p.2 ∧ p.2 < 13
theorem small_at {p : Int × Int} (h : smallP p) : smallPs[p.1.toNat * 13 + p.2.toNat]? = some p := by
  obtain ⟨h0, h1, h2, h3⟩ := h
  unfold smallPs
  have hl : p.1.toNat * 13 + p.2.toNat < 169 := by omega
  rw [List.getElem?_map, List.getElem?_range hl]
  refine congrArg some (Prod.ext ?_ ?_)
  · show (((p.1.toNat * 13 + p.2.toNat) / 13 : Nat) : Int) = _
    omega
  · show (((p.1.toNat * 13 + p.2.toNat) % 13 : Nat) : Int) = _
    omega
theorem hash_apart {p q : Int × Int} (hp : smallP p) (hq : smallP q) (h : hashP p = hashP q) : p = q := by
  have a := congrArg (Option.map hashP) (small_at hp)
  have b := congrArg (Option.map hashP) (small_at hq)
  rw [← List.getElem?_map] at a b
  have e := nodup_at hashes_apart a (b.trans (congrArg some h.symm))
  have ea := small_at hp
  rw [e] at ea
  exact Option.some.inj (ea.symm.trans (small_at hq))
theorem hashes_nodup {ps : List (Int × Int)} (hs : ∀ p ∈ ps, smallP p) (hn : ps.Nodup) : (ps.map hashP).Nodup := by
  refine List.pairwise_map.mpr (List.Pairwise.imp_of_mem (fun ha hb ne e => ne (hash_apart (hs _ ha) (hs _ hb) e)) hn)
theorem map_hash {κ α : Type} (f : κ → Int) (g : α → κ) (h : α → Int) (e : ∀ p, f (g p) = h p) : ∀ {ms : List (κ × Addr × Value)} {ps : List α}, ms.map (·.1) = ps.map g → ms.map (fun x => f x.1) = ps.map h
  | [], [], _ => rfl
  | m :: ms, p :: ps, q => by
    rw [List.map_cons, List.map_cons] at q
    injection q with q1 q2
    rw [List.map_cons, List.map_cons, map_hash f g h e q2, q1, e p]
theorem KT_keys {H : Hp} : ∀ {kvs : List (List Key × V)} {ms : List (List Key × Addr × Value)}, KT H kvs ms → ms.map (·.1) = kvs.map (·.1) := by
  intro kvs ms rel
  induction rel with
  | nil => rfl
  | cons h _ ih => rw [List.map_cons, List.map_cons, ih, h.1]
theorem KT_tups {H : Hp} {h : Heap} (ok : HOk P w H h) : ∀ {kvs : List (List Key × V)} {ms : List (List Key × Addr × Value)}, KT H kvs ms → ∀ x ∈ ms, H x.2.1 = some (.tup (x.1.map kV)) := by
  intro kvs ms rel
  induction rel with
  | nil => intro x hx; exact nomatch hx
  | cons h _ ih =>
    intro x hx
    rcases List.mem_cons.mp hx with e | hx
    · subst e
      rw [← h.1]
      exact h.2.1
    · exact ih x hx
theorem tup_cls {H : Hp} {h : Heap} (ok : HOk P w H h) {a : Addr} {xs : List V} (e : H a = some (.tup xs)) : ∃ o, h.get? a = some o ∧ o.cls = .type "tuple" := by
  obtain ⟨_, its, _, o, h1, h2, _⟩ := (show ObjOk P w H h a (.tup xs) from ok a _ e)
  exact ⟨o, h1, h2⟩

theorem call_dictT (hu : X.A.units + 64 < cLine) : CallR X (.type "dict") (fun xs H Q => ∃ (a : Addr) (kvs : List (List Key × V)) (ps : List (Int × Int)), xs = [.ref a] ∧ H a = some (.dT kvs) ∧ kvs.map (·.1) = ps.map pk ∧ ps.Nodup ∧ (∀ p ∈ ps, smallP p) ∧ ∀ p, H p = none → Q (.ref p) (upd H p (.dT kvs))) := by
  intro pins s σ H xs us Q I r q
  obtain ⟨a, kvs, ps, ex, hd, hk, hn, hs, q⟩ := q
  subst ex
  obtain ⟨u, eu, rx⟩ := vals1 r
  subst eu
  cases rx
  obtain ⟨z, lo, ms, rel, dd⟩ := dt_of I.hok hd
  have lm : kvs.length = ms.length := Paired.length rel
  have hm : (s.heap.objs.size == sysModules) = false := beq_eq_false_iff_ne.mpr (Nat.ne_of_gt I.big)
  have keys : ms.map (·.1) = ps.map pk := (KT_keys rel).trans hk
  have tups := KT_tups I.hok rel
  have hap : (ms.map fun x => (tupleKind (mixKind X.prog X.w)).hash x.1).Nodup := by
    rw [map_hash _ pk hashP (hash_pk X.prog X.w) keys]
    exact hashes_nodup hs hn
  refine dict_ofT (knd := tupleKind (mixKind X.prog X.w)) ?_ lo dd (fun x hx => tup_cls I.hok (tups x hx)) hap (by omega) (fun o' x hx => ?_) fun h' hd' hs' => ?_
  · show X.A.in1.in1.units < cLine
    rw [units_in1, units_in1]
    omega
  · obtain ⟨o, items, n, h1, h2, h3, h4⟩ := key_of I.hok (tups x hx)
    exact ⟨o, items, n, Heap.get?_push_of_some _ h1, h2, h3, h4⟩
  · obtain ⟨o, es, ep, h1, h2, h3, h4, _, h5⟩ := hd'
    refine ⟨.ref s.heap.objs.size, upd H s.heap.objs.size (.dT kvs), I.laid (t' := s.toks) (fun b u e => (hs'.2 b (Nat.ne_of_lt (Heap.lt_size e))).trans (Heap.get?_push_of_some _ e)) (Nat.le_refl _) ?_, rfl, q _ (I.hok.fresh (Nat.le_refl _))⟩
    refine ⟨z, hm, ms, rel.keeps fun c ys hc => ?_, o, es, ep, h1, h2, h3, h4, h5⟩
    rw [upd_ne (ne_of_none hc (I.hok.fresh (Nat.le_refl _)))]
    exact hc
theorem for_itemsT {d : Addr} {o : Obj} {kvs : List (List Key × V)} {g : TG} {tb : TS} {D : Ends} {σ : L2.St} {H : Hp} (Pv : Nat → L2.St → Hp → Prop) (h0 : Pv 0 σ H) (keep : ∀ i σ H, i ≤ kvs.length → Pv i σ H → H d = some (.frz o (.dT kvs)))
    (turn : ∀ i k v q T σ' H', kvs[i]? = some (k, v) → Pv i σ' H' → H' T = none → H' q = some (.tup (k.map kV)) → g (.ref T) σ' (upd H' T (.tup [.ref q, v])) fun σ2 H2 => tb { D with nx := Pv (i + 1), ct := Pv (i + 1), bk := D.nx } σ2 H2)
    (last : ∀ σ H, Pv kvs.length σ H → D.nx σ H) :
    ∃ W : Nat → Nat → L2.St → Hp → Prop, (∃ m, W 0 m σ H) ∧ ∀ i m σ H, W i m σ H →
      ((ItiT d o kvs).stop i H ∧ D.nx σ H) ∨ ((ItiT d o kvs).go i H ∧ ∃ N : L2.St → Hp → Prop, (∀ σ' H', N σ' H' → ∃ m', m' < m ∧ W (i + 1) m' σ' H') ∧ ∀ x H', (ItiT d o kvs).yld i H x H' → g x σ H' fun σ2 H2 => tb { D with nx := N, ct := N, bk := D.nx } σ2 H2) := by
  refine ⟨fun i m σ F => i + m = kvs.length ∧ Pv i σ F, ⟨kvs.length, Nat.zero_add _, h0⟩, fun i m σ F ⟨im, pv⟩ => ?_⟩
  have lst := keep i σ F (by omega) pv
  cases m with
  | zero =>
    obtain rfl : i = kvs.length := by omega
    exact .inl ⟨⟨lst, Nat.le_refl _⟩, last σ F pv⟩
  | succ m =>
    have lt : i < kvs.length := by omega
    refine .inr ⟨⟨lst, lt⟩, Pv (i + 1), fun σ' F' pv' => ⟨m, Nat.lt_succ_self m, by omega, pv'⟩, fun x F' yl => ?_⟩
    obtain ⟨T, k, v, q, hk, rfl, hT, hq, rfl⟩ := yl
    exact turn i k v q T σ F hk pv hT hq
theorem for_keysT {d : Addr} {o : Obj} {kvs : List (List Key × V)} {g : TG} {tb : TS} {D : Ends} {σ : L2.St} {H : Hp} (Pv : Nat → L2.St → Hp → Prop) (h0 : Pv 0 σ H) (keep : ∀ i σ H, i ≤ kvs.length → Pv i σ H → H d = some (.frz o (.dT kvs)))
    (turn : ∀ i k v q σ' H', kvs[i]? = some (k, v) → Pv i σ' H' → H' q = some (.tup (k.map kV)) → g (.ref q) σ' H' fun σ2 H2 => tb { D with nx := Pv (i + 1), ct := Pv (i + 1), bk := D.nx } σ2 H2)
    (last : ∀ σ H, Pv kvs.length σ H → D.nx σ H) :
    ∃ W : Nat → Nat → L2.St → Hp → Prop, (∃ m, W 0 m σ H) ∧ ∀ i m σ H, W i m σ H →
      ((Itkt d o kvs).stop i H ∧ D.nx σ H) ∨ ((Itkt d o kvs).go i H ∧ ∃ N : L2.St → Hp → Prop, (∀ σ' H', N σ' H' → ∃ m', m' < m ∧ W (i + 1) m' σ' H') ∧ ∀ x H', (Itkt d o kvs).yld i H x H' → g x σ H' fun σ2 H2 => tb { D with nx := N, ct := N, bk := D.nx } σ2 H2) := by
  refine ⟨fun i m σ F => i + m = kvs.length ∧ Pv i σ F, ⟨kvs.length, Nat.zero_add _, h0⟩, fun i m σ F ⟨im, pv⟩ => ?_⟩
  have lst := keep i σ F (by omega) pv
  cases m with
  | zero =>
    obtain rfl : i = kvs.length := by omega
    exact .inl ⟨⟨lst, Nat.le_refl _⟩, last σ F pv⟩
  | succ m =>
    have lt : i < kvs.length := by omega
    refine .inr ⟨⟨lst, lt⟩, Pv (i + 1), fun σ' F' pv' => ⟨m, Nat.lt_succ_self m, by omega, pv'⟩, fun x F' yl => ?_⟩
    obtain ⟨rfl, k, v, q, hk, rfl, hq⟩ := yl
    exact turn i k v q σ F' hk pv hq
/-- H with the dict at d locked, and unlocked again -/
theorem Same.unlock {H H' : Hp} {d : Addr} {x o : HO} (h : H d = some x) (s : Same (upd H d o) H') : Same H (upd H' d x) := fun b y e => by
  by_cases eb : b = d
  · subst eb
    rw [upd_same]
    exact h.symm.trans e
  · rw [upd_ne eb]
    exact s _ _ (by rw [upd_ne eb]; exact e)
end

/-! ### dicts from pairs to fractions -/
structure FD (K : PySem.W.Frag) (H : Hp) (a : Addr) (dom : List (Int × Int)) (f : Int × Int → Int × Int) : Prop where
  ex : ∃ kvs : List (List Key × V), H a = some (.dT kvs) ∧ All2 (fun kv p => kv.1 = pk p ∧ PrAt K H kv.2 (f p)) kvs dom
  nd : dom.Nodup
  sm : ∀ p ∈ dom, smallP p
/-- an entry row of a dict, told by its keys -/
abbrev Ents (K : PySem.W.Frag) (H : Hp) (kvs : List (List Key × V)) (dom : List (Int × Int)) (f : Int × Int → Int × Int) : Prop := All2 (fun kv p => kv.1 = pk p ∧ PrAt K H kv.2 (f p)) kvs dom
theorem Ents.tups {H H' : Hp} {kvs : List (List Key × V)} {dom : List (Int × Int)} {f : Int × Int → Int × Int} (s : TupS H H') (h : Ents K H kvs dom f) : Ents K H' kvs dom f := All2.mono h fun _ _ ⟨e, t, et, ht⟩ => ⟨e, t, et, s _ _ ht⟩
theorem FD.mono {H H' : Hp} {a : Addr} {dom : List (Int × Int)} {f : Int × Int → Int × Int} (s : Same H H') (h : FD K H a dom f) : FD K H' a dom f := by
  obtain ⟨⟨kvs, e, r⟩, nd, sm⟩ := h
  exact ⟨⟨kvs, s _ _ e, Ents.tups (TupS.of s) r⟩, nd, sm⟩
theorem Ents.get {H : Hp} {kvs : List (List Key × V)} {dom : List (Int × Int)} {f : Int × Int → Int × Int} (h : Ents K H kvs dom f) {p : Int × Int} (hp : p ∈ dom) : ∃ v, valV kvs (pk p) = some v ∧ PrAt K H v (f p) := by
  induction h with
  | nil => cases hp
  | @cons kv q xs ys h _ ih =>
    by_cases e : q = p
    · subst e
      exact ⟨kv.2, valV_pos h.1, h.2⟩
    · obtain ⟨v, e1, e2⟩ := ih ((List.mem_cons.mp hp).resolve_left (Ne.symm e))
      refine ⟨v, ?_, e2⟩
      rw [valV_neg (fun z => e (pk_inj (h.1.symm.trans z)))]
      exact e1
theorem Ents.not {H : Hp} {kvs : List (List Key × V)} {dom : List (Int × Int)} {f : Int × Int → Int × Int} (h : Ents K H kvs dom f) {p : Int × Int} (hp : p ∉ dom) : valV kvs (pk p) = none := by
  induction h with
  | nil => rfl
  | @cons kv q xs ys h _ ih =>
    rw [List.mem_cons, not_or] at hp
    rw [valV_neg (fun z => hp.1 (pk_inj (h.1.symm.trans z)).symm)]
    exact ih hp.2
theorem Ents.keys {H : Hp} {kvs : List (List Key × V)} {dom : List (Int × Int)} {f : Int × Int → Int × Int} (h : Ents K H kvs dom f) : kvs.map (·.1) = dom.map pk := by
  induction h with
  | nil => rfl
  | cons h _ ih => rw [List.map_cons, List.map_cons, ih, h.1]
theorem Ents.val {H : Hp} {kvs : List (List Key × V)} {dom : List (Int × Int)} {f g : Int × Int → Int × Int} (h : Ents K H kvs dom f) (e : ∀ p ∈ dom, f p = g p) : Ents K H kvs dom g := by
  induction h with
  | nil => exact .nil
  | @cons kv q xs ys h _ ih => exact .cons ⟨h.1, (e q (List.mem_cons_self ..)) ▸ h.2⟩ (ih fun p hp => e p (List.mem_cons_of_mem _ hp))
theorem FD.val {H : Hp} {a : Addr} {dom : List (Int × Int)} {f g : Int × Int → Int × Int} (h : FD K H a dom f) (e : ∀ p ∈ dom, f p = g p) : FD K H a dom g := by
  obtain ⟨⟨kvs, e1, r⟩, nd, sm⟩ := h
  exact ⟨⟨kvs, e1, Ents.val r e⟩, nd, sm⟩
theorem FD.nil {H : Hp} {a : Addr} {f : Int × Int → Int × Int} (h : H a = some (.dT [])) : FD K H a [] f := ⟨⟨[], h, .nil⟩, List.nodup_nil, fun _ h => nomatch h⟩
def setF (f : Int × Int → Int × Int) (p x : Int × Int) : Int × Int → Int × Int := fun q => if q = p then x else f q
/-- a new key -/
theorem FD.put {H : Hp} {a : Addr} {dom : List (Int × Int)} {f : Int × Int → Int × Int} {kvs : List (List Key × V)} {v : V} {p x : Int × Int} (nd : dom.Nodup) (sm : ∀ p ∈ dom, smallP p) (e : H a = some (.dT kvs)) (h : Ents K H kvs dom f) (hp : p ∉ dom) (hs : smallP p) (hv : PrAt K H v x) :
    FD K (upd H a (.dT (putK kvs (pk p) v))) a (dom ++ [p]) (setF f p x) := by
  rw [putK_new v (h.not hp)]
  have ts : TupS H (upd H a (.dT (kvs ++ [(pk p, v)]))) := fun t xs q => by
    rw [upd_ne (ne_of q e (fun z => nomatch z))]
    exact q
  refine ⟨⟨_, upd_same, ?_⟩, ?_, ?_⟩
  · refine All2.app (Ents.tups ts (Ents.val (g := setF f p x) h fun q hq => ?_)) (.one ⟨rfl, ?_⟩)
    · unfold setF
      rw [if_neg (fun (z : q = p) => hp (z ▸ hq))]
    · show PrAt K _ v (setF f p x p)
      unfold setF
      rw [if_pos rfl]
      obtain ⟨t, e1, e2⟩ := hv
      exact ⟨t, e1, ts _ _ e2⟩
  · rw [List.nodup_append]
    refine ⟨nd, by simp, fun u hu v hv => ?_⟩
    rw [List.mem_singleton.mp hv]
    exact fun (z : u = p) => hp (z ▸ hu)
  · intro q hq
    rcases List.mem_append.mp hq with z | z
    · exact sm q z
    · rw [List.mem_singleton.mp z]
      exact hs
/-- what stands but for the dict at a, which is new since H0 -/
theorem Same.newD {H0 H : Hp} {a : Addr} {o : HO} (s : Same H0 H) (h : H0 a = none) : Same H0 (upd H a o) := fun b x e => by
  rw [upd_ne (ne_of_none e h)]
  exact s _ _ e
theorem key_pk {H : Hp} {t : Addr} {p : Int × Int} (h : H t = some (.tup [.int p.1, .int p.2])) : H t = some (.tup ((pk p).map kV)) := h
theorem FD.few {H : Hp} {a : Addr} {dom : List (Int × Int)} {f : Int × Int → Int × Int} (h : FD K H a dom f) : ∃ kvs, H a = some (.dT kvs) ∧ kvs.length = dom.length := by
  obtain ⟨⟨kvs, e, r⟩, nd, sm⟩ := h
  exact ⟨kvs, e, r.length⟩
/-- a row of keys that hold the same has the same length -/
theorem dom_len {l m : List (Int × Int)} (h : l.Nodup) (k : m.Nodup) (e : ∀ p, p ∈ l ↔ p ∈ m) : l.length = m.length :=
  ((List.perm_ext_iff_of_nodup h k).mpr e).length_eq

/-! ### fractions in lowest terms: the mathematics -/
def lowI (t b : Int) : Int × Int := if b < 0 then ((-t) / ((Nat.gcd t.natAbs b.natAbs : Nat) : Int), (-b) / ((Nat.gcd t.natAbs b.natAbs : Nat) : Int)) else (t / ((Nat.gcd t.natAbs b.natAbs : Nat) : Int), b / ((Nat.gcd t.natAbs b.natAbs : Nat) : Int))
/-- lowest terms: x over y -/
structure Low (x y : Int) : Prop where
  pos : 0 < y
  one : Nat.gcd x.natAbs y.natAbs = 1
theorem lowI_pos {t b : Int} (h : 0 < b) : Low (lowI t b).1 (lowI t b).2 ∧ (lowI t b).1 * b = (lowI t b).2 * t ∧ (lowI t b).2 ≤ b ∧ (lowI t b).1.natAbs ≤ t.natAbs := by
  have hg : 0 < Nat.gcd t.natAbs b.natAbs := Nat.gcd_pos_of_pos_right _ (by omega)
  obtain ⟨x, hx⟩ := Nat.gcd_dvd_left t.natAbs b.natAbs
  obtain ⟨y, hy⟩ := Nat.gcd_dvd_right t.natAbs b.natAbs
  have e : lowI t b = (t / ((Nat.gcd t.natAbs b.natAbs : Nat) : Int), b / ((Nat.gcd t.natAbs b.natAbs : Nat) : Int)) := by
    unfold lowI
    rw [if_neg (by omega)]
  rw [e]
  generalize hgd : Nat.gcd t.natAbs b.natAbs = g at *
  have hg' : (g : Int) ≠ 0 := by omega
  have hb : b = (g : Int) * (y : Int) := by
    have : (b.natAbs : Int) = ((g * y : Nat) : Int) := by rw [← hy]
    rw [Int.natCast_mul] at this
    omega
  have eb : b / (g : Int) = (y : Int) := by rw [hb]; exact Int.mul_ediv_cancel_left _ hg'
  have hy0 : 0 < y := by
    rcases Nat.eq_zero_or_pos y with q | q
    · rw [q, Int.ofNat_zero, Int.mul_zero] at hb; omega
    · exact q
  have ht : t = (g : Int) * (if t < 0 then -(x : Int) else (x : Int)) := by
    have : (t.natAbs : Int) = ((g * x : Nat) : Int) := by rw [← hx]
    rw [Int.natCast_mul] at this
    split
    · rw [Int.mul_neg]; omega
    · omega
  have et : t / (g : Int) = (if t < 0 then -(x : Int) else (x : Int)) := by
    conv => lhs; rw [ht]
    exact Int.mul_ediv_cancel_left _ hg'
  have hcop : Nat.gcd x y = 1 := by
    have h1 : Nat.gcd (g * x) (g * y) = g * Nat.gcd x y := Nat.gcd_mul_left g x y
    rw [← hx, ← hy, hgd] at h1
    have h2 : g * 1 = g * Nat.gcd x y := by rw [Nat.mul_one]; exact h1
    exact (Nat.eq_of_mul_eq_mul_left hg h2).symm
  rw [eb, et]
  have hna : (if t < 0 then -(x : Int) else (x : Int)).natAbs = x := by split <;> omega
  refine ⟨⟨by omega, ?_⟩, ?_, ?_, ?_⟩
  · rw [hna, Int.natAbs_natCast]; exact hcop
  · have := ht
    generalize (if t < 0 then -(x : Int) else (x : Int)) = x' at *
    show x' * b = (y : Int) * t
    rw [hb, ht, Int.mul_left_comm x', Int.mul_left_comm (y : Int), Int.mul_comm x']
  · rw [hb]
    have : (1 : Int) * (y : Int) ≤ (g : Int) * (y : Int) := Int.mul_le_mul_of_nonneg_right (by omega) (by omega)
    omega
  · show (if t < 0 then -(x : Int) else (x : Int)).natAbs ≤ t.natAbs
    rw [hna, hx]
    exact Nat.le_mul_of_pos_left x hg
theorem lowI_neg {t b : Int} (h : b < 0) : lowI t b = lowI (-t) (-b) := by
  unfold lowI
  rw [if_pos h, if_neg (show ¬ (-b < 0) by omega), Int.natAbs_neg, Int.natAbs_neg]
theorem lowI_ok {t b : Int} (h : b ≠ 0) : Low (lowI t b).1 (lowI t b).2 ∧ (lowI t b).1 * b = (lowI t b).2 * t ∧ (lowI t b).2.natAbs ≤ b.natAbs ∧ (lowI t b).1.natAbs ≤ t.natAbs := by
  by_cases hb : 0 < b
  · obtain ⟨h1, h2, h3, h4⟩ := lowI_pos (t := t) hb
    exact ⟨h1, h2, by have := h1.pos; omega, h4⟩
  · have hn : b < 0 := by omega
    obtain ⟨h1, h2, h3, h4⟩ := lowI_pos (t := -t) (b := -b) (by omega)
    rw [← lowI_neg hn] at h1 h2 h3 h4
    refine ⟨h1, ?_, by have := h1.pos; omega, by rw [Int.natAbs_neg] at h4; exact h4⟩
    rw [Int.mul_neg, Int.mul_neg] at h2
    omega
theorem lowI_self {x y : Int} (h : Low x y) : lowI x y = (x, y) := by
  unfold lowI
  have := h.pos
  rw [if_neg (by omega), h.one]
  simp
/-- two in lowest terms that are worth the same are the same -/
theorem low_same {x y u v : Int} (h : Low x y) (k : Low u v) (e : x * v = u * y) : x = u ∧ y = v := by
  have hy := h.pos
  have hv := k.pos
  have e' : x.natAbs * v.natAbs = u.natAbs * y.natAbs := by rw [← Int.natAbs_mul, ← Int.natAbs_mul, e]
  have d1 : y.natAbs ∣ v.natAbs := by
    have : y.natAbs ∣ x.natAbs * v.natAbs := by rw [e']; exact Nat.dvd_mul_left _ _
    exact (Nat.Coprime.symm (show Nat.Coprime x.natAbs y.natAbs from h.one)).dvd_of_dvd_mul_left this
  have d2 : v.natAbs ∣ y.natAbs := by
    have : v.natAbs ∣ u.natAbs * y.natAbs := by rw [← e']; exact Nat.dvd_mul_left _ _
    exact (Nat.Coprime.symm (show Nat.Coprime u.natAbs v.natAbs from k.one)).dvd_of_dvd_mul_left this
  have ey : y.natAbs = v.natAbs := Nat.dvd_antisymm d1 d2
  have eyv : y = v := by omega
  subst eyv
  exact ⟨Int.eq_of_mul_eq_mul_right (by omega) e, rfl⟩
theorem fdiv_lowN {t g : Int} (hg : 0 < g) : t.fdiv (-g) = (-t) / g := by
  have e : t.fdiv (-g) = (-(-t)).fdiv (-g) := by rw [Int.neg_neg]
  rw [e, Int.neg_fdiv_neg, Int.fdiv_eq_ediv_of_nonneg _ (by omega)]
theorem fdiv_lowP {t g : Int} (hg : 0 < g) : t.fdiv g = t / g := Int.fdiv_eq_ediv_of_nonneg _ (by omega)
theorem gcd_log {t b : Int} (h : b ≠ 0) (hb : b.natAbs.log2 < 9000) : ((Nat.gcd t.natAbs b.natAbs : Nat) : Int).natAbs.log2 < 9000 := by
  rw [Int.natAbs_natCast]
  have h1 : Nat.gcd t.natAbs b.natAbs ≤ b.natAbs := Nat.gcd_le_right _ (by omega)
  have h2 : b.natAbs < 2 ^ (b.natAbs.log2 + 1) := Nat.lt_log2_self
  have h3 : (Nat.gcd t.natAbs b.natAbs).log2 < b.natAbs.log2 + 1 := PySem.Flt.log2_lt_of (by omega) (Nat.lt_of_le_of_lt h1 h2)
  omega

/-! ### whole, low, part -/
def sp_whole : Sp := fun vs H Q _ => ∃ n : Int, vs = [.int n] ∧ Q (.bl true) H
theorem ok__law_whole (T : Env K mg) : FnOk P w K mg base CX0 1 T.a__law_whole T.fd__law_whole ["_law_found"] sp_whole := by
  refine T.F__law_whole.ok sc__law_whole (fun vs H Q E h => ?_) (fun cdv A outer s H vs Q E hr h => ?_)
  · obtain ⟨n, rfl, _⟩ := h
    rfl
  · obtain ⟨n, rfl, q⟩ := h
    refine ⟨_, (pss_one (ps_ret (pe_and (pe_callB call_isi (by rfl) T.m_isinstance (by decide +kernel) (pa_cons (pv 0) (pa_cons (pe_bltn (v := .ty "int") (u := .type "int") (by rfl) T.m_int (by decide +kernel) rfl) pa_nil))) (pe_one (pe_not (pe_callB call_isi (by rfl) T.m_isinstance (by decide +kernel) (pa_cons (pv 0) (pa_cons (pe_bltn (v := .ty "bool") (u := .type "bool") (by rfl) T.m_bool (by decide +kernel) rfl) pa_nil)))))))), ?_⟩
    refine ⟨_, rfl, _, _, _, _, _, rfl, .ty _, .base (.int _), kit_ty (by decide +kernel), true, rfl, iteT ?_⟩
    exact ⟨_, rfl, _, _, _, _, _, rfl, .ty _, .base (.int _), kit_ty (by decide +kernel), false, rfl, q⟩
def sp_low : Sp := fun vs H Q _ => ∃ t b : Int, vs = [.int t, .int b] ∧ b ≠ 0 ∧ b.natAbs.log2 < 9000 ∧
  ∀ p, H p = none → Q (.ref p) (upd H p (.tup [.int (lowI t b).1, .int (lowI t b).2]))
theorem gcd_turn {a b : Nat} (h : 0 < b) : Nat.gcd b (a % b) = Nat.gcd a b := by
  rw [Nat.gcd_comm a b, Nat.gcd_rec b a, Nat.gcd_comm]
theorem ok__law_low (T : Env K mg) : FnOk P w K mg base CX0 1 T.a__law_low T.fd__law_low ["_law_top", "_law_bottom"] sp_low := by
  refine T.F__law_low.ok sc__law_low (fun vs H Q E h => ?_) (fun cdv A outer s H vs Q E hr h => ?_)
  · obtain ⟨t, b, rfl, _⟩ := h
    rfl
  · obtain ⟨t, b, rfl, hb, hlog, q⟩ := h
    refine ⟨_, (pss_cons (ps_set (i := 2) sc__law_low.nd rfl (.inl rfl) (pe_callB call_abs (by rfl) T.m_abs (by decide +kernel) (pa_cons (pv 0) pa_nil)))
 (pss_cons (ps_set (i := 3) sc__law_low.nd rfl (.inl rfl) (pe_callB call_abs (by rfl) T.m_abs (by decide +kernel) (pa_cons (pv 1) pa_nil)))
 (pss_cons (ps_while PassesOwn.never (pt_cmpR op_gt (pv 3) pe_int (nomark _))
 (pss_one (ps_par (i := 2) (j := 3) (by rfl) sc__law_low.nd rfl rfl (by decide) rfl rfl (pa_cons (pv 3) (pa_cons (pe_op op_mod (pv 2) (pv 3)) pa_nil)) (by rfl))))
 (C8.pss_cut (ps_if (pt_cmpR op_lt (pv 1) pe_int (nomark _))
 (pss_cons (ps_set (i := 0) sc__law_low.nd rfl (.inl rfl) (pe_un un_neg (pv 0)))
 (pss_one (ps_set (i := 1) sc__law_low.nd rfl (.inl rfl) (pe_un un_neg (pv 1)))))
 pss_nil)
 (pss_one (ps_ret (pe_tup (pa_cons (pe_op op_fdivX (pv 0) (pv 2)) (pa_cons (pe_op op_fdivX (pv 1) (pv 2)) pa_nil))))))))), ?_⟩
    refine ⟨_, rfl, _, rfl, _, rfl, _, rfl, ?_⟩
    have ab : ∀ z : Int, (if z < 0 then -z else z) = (z.natAbs : Int) := fun z => by split <;> omega
    rw [ab, ab]
    refine while_by (fun σ H' => H = H' ∧ ∃ x y : Nat, σ = [some (.int t), some (.int b), some (.int (x : Int)), some (.int (y : Int))] ∧ Nat.gcd x y = Nat.gcd t.natAbs b.natAbs)
      (fun σ _ => match σ with | [_, _, _, some (.int y)] => y.toNat | _ => 0) ⟨rfl, _, _, rfl, rfl⟩ ?_ ?_
    · rintro _ _ ⟨rfl, x, y, rfl, hg⟩
      refine ⟨_, rfl, _, _, rfl, rfl, _, rfl, ite2 (fun hd => ?_) (fun hd => ?_)⟩
      · have hy : 0 < y := by have := of_decide_eq_true hd; omega
        refine ⟨_, rfl, _, rfl, _, rfl, _, _, rfl, rfl, by omega, _, _, rfl, ⟨rfl, y, x % y, ?_, ?_⟩, ?_⟩
        · rw [Int.natCast_emod]; rfl
        · rw [gcd_turn hy]; exact hg
        · show ((x : Int) % (y : Int)).toNat < ((y : Int)).toNat
          have : x % y < y := Nat.mod_lt _ hy
          rw [← Int.natCast_emod]
          omega
      · have hy : y = 0 := by have h1 : ¬ ((0 : Int) < (y : Int)) := nd hd; omega
        subst hy
        rw [Nat.gcd_zero_right] at hg
        have hgp : 0 < Nat.gcd t.natAbs b.natAbs := Nat.gcd_pos_of_pos_right _ (by omega)
        have hgl := gcd_log (t := t) hb hlog
        rw [hg]
        generalize hG : Nat.gcd t.natAbs b.natAbs = g at *
        refine ⟨fun σ' H2 => H = H2 ∧ ∃ y0 : Option V, ((b < 0 ∧ σ' = [some (.int (-t)), some (.int (-b)), some (.int (g : Int)), y0]) ∨ (¬ b < 0 ∧ σ' = [some (.int t), some (.int b), some (.int (g : Int)), y0])), ?_, ?_⟩
        · refine ⟨_, rfl, _, _, rfl, rfl, _, rfl, ite2 (fun hd => ?_) (fun hd => ?_)⟩
          · exact ⟨_, rfl, _, rfl, _, rfl, _, rfl, rfl, _, .inl ⟨of_decide_eq_true hd, rfl⟩⟩
          · exact ⟨rfl, _, .inr ⟨nd hd, rfl⟩⟩
        · rintro σ' H2 ⟨rfl, y0, ⟨hn, rfl⟩ | ⟨hn, rfl⟩⟩
          · refine ⟨_, rfl, _, rfl, _, _, rfl, rfl, ⟨by omega, hgl⟩, _, rfl, _, rfl, _, _, rfl, rfl, ⟨by omega, hgl⟩, (by show 2 ≤ sizeLine; decide), fun p hp => ?_⟩
            have := q p hp
            unfold lowI at this
            rw [if_pos hn, hG] at this
            show Q (.ref p) (upd H p (.tup [.int ((-t).fdiv (g : Int)), .int ((-b).fdiv (g : Int))]))
            rw [fdiv_lowP (by omega), fdiv_lowP (by omega)]
            exact this
          · refine ⟨_, rfl, _, rfl, _, _, rfl, rfl, ⟨by omega, hgl⟩, _, rfl, _, rfl, _, _, rfl, rfl, ⟨by omega, hgl⟩, (by show 2 ≤ sizeLine; decide), fun p hp => ?_⟩
            have := q p hp
            unfold lowI at this
            rw [if_neg hn, hG] at this
            show Q (.ref p) (upd H p (.tup [.int (t.fdiv (g : Int)), .int (b.fdiv (g : Int))]))
            rw [fdiv_lowP (by omega), fdiv_lowP (by omega)]
            exact this
    · rintro σ H' Q1 Q2 hQ ⟨v, e, i, j, e1, e2, k, e3, q1⟩
      exact ⟨v, e, i, j, e1, e2, k, e3, hQ _ _ q1⟩
/-- what is told of a pair of ints: whether it is a fraction in lowest terms -/
def sp_part (K : PySem.W.Frag) : Sp := fun vs H Q _ => ∃ (p : Addr) (x y : Int), vs = [.ref p] ∧ H p = some (.tup [.int x, .int y]) ∧ Low x y ∧ y.natAbs.log2 < 9000 ∧ ∀ H', Same H H' → Q (.bl true) H'
theorem ok__law_part (T : Env K mg) : FnOk P w K mg base CX0 2 T.a__law_part T.fd__law_part ["_law_found"] (sp_part K) := by
  refine T.F__law_part.ok sc__law_part (fun vs H Q E h => ?_) (fun cdv A outer s H vs Q E hr h => ?_)
  · obtain ⟨p, x, y, rfl, _⟩ := h
    rfl
  · obtain ⟨p, x, y, rfl, hp, hL, hlog, q⟩ := h
    refine ⟨_, (pss_cons (ps_if (PW.pt (pw_or (pt_not (pt_val (pe_callB call_isi (by rfl) T.m_isinstance (by decide +kernel) (pa_cons (pv 0) (pa_cons (pe_bltn (v := .ty "tuple") (u := .type "tuple") (by rfl) T.m_tuple (by decide +kernel) rfl) pa_nil))))) (pw_or1 (pt_cmpR op_ne (pe_callB (id := "len") call_len_seq (by rfl) T.m_len (by decide +kernel) (pa_cons (pv 0) pa_nil)) pe_int (nomark _)))))
 (pss_one (ps_ret pe_bl))
 pss_nil)
 (pss_cons (ps_if (PW.pt (pw_or (pt_not (pt_val (pe_call (ok__law_whole T) (hr.mono (by decide)) (by rfl) T.g__law_whole T.F__law_whole.kp T.b__law_whole .nil pass0 (pa_cons (pe_ix ix_tup (pv 0) pe_int (fun _ _ => rfl)) pa_nil)))) (pw_or (pt_not (pt_val (pe_call (ok__law_whole T) (hr.mono (by decide)) (by rfl) T.g__law_whole T.F__law_whole.kp T.b__law_whole .nil pass0 (pa_cons (pe_ix ix_tup (pv 0) pe_int (fun _ _ => rfl)) pa_nil)))) (pw_or1 (pt_cmpR op_le (pe_ix ix_tup (pv 0) pe_int (fun _ _ => rfl)) pe_int (nomark _))))))
 (pss_one (ps_ret pe_bl))
 pss_nil)
 (pss_one (ps_ret (pe_cmpR (op_eqD hr.units) (pe_call (ok__law_low T) (hr.mono (by decide)) (by rfl) T.g__law_low T.F__law_low.kp T.b__law_low .nil pass0 (pa_cons (pe_ix ix_tup (pv 0) pe_int (fun _ _ => rfl)) (pa_cons (pe_ix ix_tup (pv 0) pe_int (fun _ _ => rfl)) pa_nil))) (pv 0) (nomark _)))))), ?_⟩
    have hS : SqT K H p [.int x, .int y] := .inl (.inl hp)
    have hpos := hL.pos
    refine ⟨_, rfl, _, _, _, _, _, rfl, .ty _, .base (.tup hp), kit_ty (by decide +kernel), true, rfl, ?_⟩
    show if false = true then _ else _
    rw [if_neg Bool.false_ne_true]
    refine ⟨_, rfl, _, _, rfl, .inr hS, rfl, _, rfl, ?_⟩
    refine iteNS rfl ?_
    refine ⟨_, rfl, _, _, _, _, rfl, rfl, hS, atI_nat (j := 0) rfl, _, rfl, true, rfl, iteF ?_⟩
    refine ⟨_, rfl, _, _, _, _, rfl, rfl, hS, atI_nat (j := 1) rfl, _, rfl, true, rfl, iteF ?_⟩
    refine ⟨_, rfl, _, _, _, _, rfl, rfl, hS, atI_nat (j := 1) rfl, _, _, rfl, rfl, _, rfl, ?_⟩
    rw [decide_eq_false (show ¬ y ≤ 0 by omega)]
    refine iteF ?_
    refine ⟨_, rfl, _, _, _, _, rfl, rfl, hS, atI_nat (j := 0) rfl, _, rfl, _, _, _, _, rfl, rfl, hS, atI_nat (j := 1) rfl, x, y, rfl, by omega, hlog, fun r hr' => ?_⟩
    rw [lowI_self hL]
    have hd : ∀ z H2, H2 z = some (.tup [.int x, .int y]) → Dp K H2 (.ref z) (.tuple [.int x, .int y]) := fun z H2 e => .tup (.inl (.inl e)) (.cons (.int x) (.cons (.int y) .nil))
    have hpr : p ≠ r := ne_of_none hp hr'
    refine ⟨_, rfl, _, _, hd r _ upd_same, hd p _ (by rw [upd_ne hpr]; exact hp), rfl, rfl, ?_⟩
    rw [SeqAt.eqv_refl _ (by rfl)]
    exact q _ (same_new hr')

/-! ### posts parted into plots: the mathematics -/
inductive Tr where
  | lf : Tr
  | nd (m : Int) (l r : Tr) : Tr
def TOk (S : Int → Prop) : Int → Int → Tr → Prop
  | lo, hi, .lf => lo < hi ∧ ∀ z, S z → ¬ (lo < z ∧ z < hi)
  | lo, hi, .nd m l r => S m ∧ TOk S lo m l ∧ TOk S m hi r
def tie : Int → Int → Tr → Int → Int → Prop
  | lo, hi, .lf, a, b => a = lo ∧ b = hi
  | lo, hi, .nd m l r, a, b => (a = lo ∧ b = hi) ∨ tie lo m l a b ∨ tie m hi r a b
def graft (v : Int) : Int → Int → Tr → Tr
  | lo, hi, .lf => if lo < v ∧ v < hi then .nd v .lf .lf else .lf
  | lo, hi, .nd m l r => .nd m (graft v lo m l) (graft v m hi r)
theorem TOk.lt {S : Int → Prop} : ∀ {T : Tr} {lo hi : Int}, TOk S lo hi T → lo < hi
  | .lf, _, _, h => h.1
  | .nd m l r, _, _, ⟨_, h1, h2⟩ => Int.lt_trans h1.lt h2.lt
theorem tie_root : ∀ {T : Tr} {lo hi : Int}, tie lo hi T lo hi
  | .lf, _, _ => ⟨rfl, rfl⟩
  | .nd _ _ _, _, _ => .inl ⟨rfl, rfl⟩
theorem tie_in {S : Int → Prop} : ∀ {T : Tr} {lo hi a b : Int}, TOk S lo hi T → tie lo hi T a b → lo ≤ a ∧ a < b ∧ b ≤ hi
  | .lf, lo, hi, a, b, h, ⟨e1, e2⟩ => by subst e1; subst e2; exact ⟨Int.le_refl _, h.1, Int.le_refl _⟩
  | .nd m l r, lo, hi, a, b, ⟨_, h1, h2⟩, t => by
    have q1 := h1.lt
    have q2 := h2.lt
    rcases t with ⟨e1, e2⟩ | t | t
    · subst e1; subst e2; exact ⟨Int.le_refl _, Int.lt_trans q1 q2, Int.le_refl _⟩
    · have := tie_in h1 t; omega
    · have := tie_in h2 t; omega
theorem tie_S {S : Int → Prop} : ∀ {T : Tr} {lo hi a b : Int}, TOk S lo hi T → S lo → S hi → tie lo hi T a b → S a ∧ S b
  | .lf, lo, hi, a, b, h, s1, s2, ⟨e1, e2⟩ => by subst e1; subst e2; exact ⟨s1, s2⟩
  | .nd m l r, lo, hi, a, b, ⟨sm, h1, h2⟩, s1, s2, t => by
    rcases t with ⟨e1, e2⟩ | t | t
    · subst e1; subst e2; exact ⟨s1, s2⟩
    · exact tie_S h1 s1 sm t
    · exact tie_S h2 sm s2 t
theorem tie_adj {S : Int → Prop} : ∀ {T : Tr} {lo hi a b : Int}, TOk S lo hi T → S lo → S hi → S a → S b → a < b → (∀ z, S z → ¬ (a < z ∧ z < b)) → lo ≤ a → b ≤ hi → tie lo hi T a b
  | .lf, lo, hi, a, b, h, s1, s2, sa, sb, hab, hz, h1, h2 => by
    have := h.2 a sa
    have := h.2 b sb
    exact ⟨by omega, by omega⟩
  | .nd m l r, lo, hi, a, b, ⟨sm, h1, h2⟩, s1, s2, sa, sb, hab, hz, g1, g2 => by
    have := hz m sm
    by_cases hm : b ≤ m
    · exact .inr (.inl (tie_adj h1 s1 sm sa sb hab hz g1 hm))
    · exact .inr (.inr (tie_adj h2 sm s2 sa sb hab hz (by omega) g2))
theorem nocross {S : Int → Prop} : ∀ {T : Tr} {lo hi a b c d : Int}, TOk S lo hi T → tie lo hi T a b → tie lo hi T c d → a < c → c < b → b < d → False
  | .lf, lo, hi, a, b, c, d, h, ⟨e1, e2⟩, ⟨e3, e4⟩, h1, h2, h3 => by omega
  | .nd m l r, lo, hi, a, b, c, d, ⟨sm, k1, k2⟩, t, u, h1, h2, h3 => by
    have q1 := k1.lt
    have q2 := k2.lt
    rcases t with ⟨e1, e2⟩ | t | t <;> rcases u with ⟨e3, e4⟩ | u | u
    · omega
    · have := tie_in k1 u; omega
    · have := tie_in k2 u; omega
    · have := tie_in k1 t; omega
    · exact nocross k1 t u h1 h2 h3
    · have := tie_in k1 t; have := tie_in k2 u; omega
    · have := tie_in k2 t; omega
    · have := tie_in k2 t; have := tie_in k1 u; omega
    · exact nocross k2 t u h1 h2 h3
theorem inner {S : Int → Prop} : ∀ {T : Tr} {lo hi a b : Int}, TOk S lo hi T → tie lo hi T a b → (∀ z, S z → ¬ (a < z ∧ z < b)) ∨ ∃ m, a < m ∧ m < b ∧ tie lo hi T a m ∧ tie lo hi T m b
  | .lf, lo, hi, a, b, h, ⟨e1, e2⟩ => by subst e1; subst e2; exact .inl h.2
  | .nd m l r, lo, hi, a, b, ⟨sm, k1, k2⟩, t => by
    rcases t with ⟨e1, e2⟩ | t | t
    · subst e1; subst e2; exact .inr ⟨m, k1.lt, k2.lt, .inr (.inl tie_root), .inr (.inr tie_root)⟩
    · rcases inner k1 t with q | ⟨x, q1, q2, q3, q4⟩
      · exact .inl q
      · exact .inr ⟨x, q1, q2, .inr (.inl q3), .inr (.inl q4)⟩
    · rcases inner k2 t with q | ⟨x, q1, q2, q3, q4⟩
      · exact .inl q
      · exact .inr ⟨x, q1, q2, .inr (.inr q3), .inr (.inr q4)⟩
theorem outer {S : Int → Prop} : ∀ {T : Tr} {lo hi a b : Int}, TOk S lo hi T → tie lo hi T a b → ¬ (a = lo ∧ b = hi) → ∃ p, (p < a ∧ tie lo hi T p a ∧ tie lo hi T p b) ∨ (b < p ∧ tie lo hi T a p ∧ tie lo hi T b p)
  | .lf, lo, hi, a, b, h, t, n => absurd t n
  | .nd m l r, lo, hi, a, b, ⟨sm, k1, k2⟩, t, n => by
    rcases t with t | t | t
    · exact absurd t n
    · by_cases e : a = lo ∧ b = m
      · obtain ⟨e1, e2⟩ := e; subst e1; subst e2
        exact ⟨hi, .inr ⟨k2.lt, .inl ⟨rfl, rfl⟩, .inr (.inr tie_root)⟩⟩
      · obtain ⟨p, q | q⟩ := outer k1 t e
        · exact ⟨p, .inl ⟨q.1, .inr (.inl q.2.1), .inr (.inl q.2.2)⟩⟩
        · exact ⟨p, .inr ⟨q.1, .inr (.inl q.2.1), .inr (.inl q.2.2)⟩⟩
    · by_cases e : a = m ∧ b = hi
      · obtain ⟨e1, e2⟩ := e; subst e1; subst e2
        exact ⟨lo, .inl ⟨k1.lt, .inr (.inl tie_root), .inl ⟨rfl, rfl⟩⟩⟩
      · obtain ⟨p, q | q⟩ := outer k2 t e
        · exact ⟨p, .inl ⟨q.1, .inr (.inr q.2.1), .inr (.inr q.2.2)⟩⟩
        · exact ⟨p, .inr ⟨q.1, .inr (.inr q.2.1), .inr (.inr q.2.2)⟩⟩
theorem TOk.more {S S' : Int → Prop} : ∀ {T : Tr} {lo hi : Int}, TOk S lo hi T → (∀ z, S z → S' z) → (∀ z, S' z → lo < z → z < hi → S z) → TOk S' lo hi T
  | .lf, lo, hi, h, s1, s2 => ⟨h.1, fun z hz hh => h.2 z (s2 z hz hh.1 hh.2) hh⟩
  | .nd m l r, lo, hi, ⟨sm, k1, k2⟩, s1, s2 => ⟨s1 m sm, k1.more s1 fun z hz h1 h2 => s2 z hz h1 (Int.lt_trans h2 k2.lt), k2.more s1 fun z hz h1 h2 => s2 z hz (Int.lt_trans k1.lt h1) h2⟩
theorem graft_ok {S S' : Int → Prop} {v : Int} : ∀ {T : Tr} {lo hi : Int}, TOk S lo hi T → (∀ z, S' z ↔ S z ∨ z = v) → TOk S' lo hi (graft v lo hi T)
  | .lf, lo, hi, h, s => by
    unfold graft
    by_cases e : lo < v ∧ v < hi
    · rw [if_pos e]
      refine ⟨(s v).mpr (.inr rfl), ⟨e.1, fun z hz hh => ?_⟩, e.2, fun z hz hh => ?_⟩
      · rcases (s z).mp hz with hz | hz
        · exact h.2 z hz ⟨hh.1, by omega⟩
        · omega
      · rcases (s z).mp hz with hz | hz
        · exact h.2 z hz ⟨by omega, hh.2⟩
        · omega
    · rw [if_neg e]
      refine ⟨h.1, fun z hz hh => ?_⟩
      rcases (s z).mp hz with hz | hz
      · exact h.2 z hz hh
      · exact e (hz ▸ hh)
  | .nd m l r, lo, hi, ⟨sm, k1, k2⟩, s => ⟨(s m).mpr (.inl sm), graft_ok k1 s, graft_ok k2 s⟩
theorem graft_same {S : Int → Prop} {v : Int} : ∀ {T : Tr} {lo hi : Int}, TOk S lo hi T → ¬ (lo < v ∧ v < hi) → graft v lo hi T = T
  | .lf, lo, hi, h, n => by unfold graft; rw [if_neg n]
  | .nd m l r, lo, hi, ⟨sm, k1, k2⟩, n => by
    have q1 := k1.lt
    have q2 := k2.lt
    unfold graft
    rw [graft_same k1 (by omega), graft_same k2 (by omega)]
theorem graft_tie {S : Int → Prop} {v p q : Int} (nv : ¬ S v) (sp : S p) (sq : S q) (hp : p < v) (hq : v < q) (hz : ∀ z, S z → ¬ (p < z ∧ z < q)) :
    ∀ {T : Tr} {lo hi : Int}, TOk S lo hi T → S lo → S hi → lo < v → v < hi → ∀ a b, tie lo hi (graft v lo hi T) a b ↔ tie lo hi T a b ∨ (a = p ∧ b = v) ∨ (a = v ∧ b = q)
  | .lf, lo, hi, h, s1, s2, g1, g2, a, b => by
    unfold graft
    rw [if_pos ⟨g1, g2⟩]
    have := h.2 p sp
    have := h.2 q sq
    have := hz lo s1
    have := hz hi s2
    have e1 : p = lo := by omega
    have e2 : q = hi := by omega
    subst e1; subst e2
    exact Iff.rfl
  | .nd m l r, lo, hi, ⟨sm, k1, k2⟩, s1, s2, g1, g2, a, b => by
    have hm : m ≠ v := fun e => nv (e ▸ sm)
    unfold graft
    show (_ ∨ tie lo m (graft v lo m l) a b ∨ tie m hi (graft v m hi r) a b) ↔ (_ ∨ _ ∨ _) ∨ _
    by_cases h : v < m
    · rw [graft_same k2 (by omega), graft_tie nv sp sq hp hq hz k1 s1 sm g1 h a b]
      constructor
      · rintro (h | (h | h) | h)
        · exact .inl (.inl h)
        · exact .inl (.inr (.inl h))
        · exact .inr h
        · exact .inl (.inr (.inr h))
      · rintro ((h | h | h) | h)
        · exact .inl h
        · exact .inr (.inl (.inl h))
        · exact .inr (.inr h)
        · exact .inr (.inl (.inr h))
    · rw [graft_same k1 (by omega), graft_tie nv sp sq hp hq hz k2 sm s2 (by omega) g2 a b]
      constructor
      · rintro (h | h | h | h)
        · exact .inl (.inl h)
        · exact .inl (.inr (.inl h))
        · exact .inl (.inr (.inr h))
        · exact .inr h
      · rintro ((h | h | h) | h)
        · exact .inl h
        · exact .inr (.inl h)
        · exact .inr (.inr (.inl h))
        · exact .inr (.inr (.inr h))
/-- neighbours among S, or the first and the last -/
def side (S : Int → Prop) (lo hi a b : Int) : Prop := (∀ z, S z → ¬ (a < z ∧ z < b)) ∨ (a = lo ∧ b = hi)
structure Cut (S : Int → Prop) (lo hi : Int) (R : List (Int × Int)) : Prop where
  slo : S lo
  shi : S hi
  bd : ∀ z, S z → lo ≤ z ∧ z ≤ hi
  nd : R.Nodup
  ex : ∃ T, TOk S lo hi T ∧ ∀ a b, (a, b) ∈ R ↔ tie lo hi T a b ∧ ¬ side S lo hi a b
theorem ear_mid {S S' : Int → Prop} {lo hi v p q : Int} {R : List (Int × Int)} (h : Cut S lo hi R) (s : ∀ z, S' z ↔ S z ∨ z = v) (nv : ¬ S v) (sp : S p) (sq : S q) (hp : p < v) (hq : v < q) (hz : ∀ z, S z → ¬ (p < z ∧ z < q)) (hr : ¬ (p = lo ∧ q = hi)) :
    Cut S' lo hi ((p, q) :: R) := by
  obtain ⟨T, hT, hR⟩ := h.ex
  have b1 := h.bd p sp
  have b2 := h.bd q sq
  have hpq := tie_adj hT h.slo h.shi sp sq (Int.lt_trans hp hq) hz b1.1 b2.2
  refine ⟨(s lo).mpr (.inl h.slo), (s hi).mpr (.inl h.shi), fun z hz => ?_, List.nodup_cons.mpr ⟨fun hm => ?_, h.nd⟩, graft v lo hi T, graft_ok hT s, fun a b => ?_⟩
  · rcases (s z).mp hz with hz | hz
    · exact h.bd z hz
    · omega
  · exact ((hR p q).mp hm).2 (.inl hz)
  · rw [graft_tie nv sp sq hp hq hz hT h.slo h.shi (by omega) (by omega) a b, List.mem_cons, hR a b]
    constructor
    · rintro (e | ⟨t, n⟩)
      · obtain ⟨rfl, rfl⟩ := Prod.mk.inj e
        refine ⟨.inl hpq, ?_⟩
        rintro (w | w)
        · exact w v ((s v).mpr (.inr rfl)) ⟨hp, hq⟩
        · exact hr w
      · refine ⟨.inl t, ?_⟩
        rintro (w | w)
        · exact n (.inl fun z hz => w z ((s z).mpr (.inl hz)))
        · exact n (.inr w)
    · rintro ⟨t | ⟨e1, e2⟩ | ⟨e1, e2⟩, n⟩
      · by_cases e : (a, b) = (p, q)
        · exact .inl e
        · refine .inr ⟨t, ?_⟩
          rintro (w | w)
          · apply n
            left
            intro z hz' hh
            rcases (s z).mp hz' with hz' | hz'
            · exact w z hz' hh
            · subst hz'
              have u := tie_S hT h.slo h.shi t
              have w1 := w p sp
              have w2 := w q sq
              have w3 := hz a u.1
              have w4 := hz b u.2
              have e1 : a = p := by omega
              have e2 : b = q := by omega
              exact e (by rw [e1, e2])
          · exact n (.inr w)
      · subst e1; subst e2
        exact absurd (.inl fun z hz' hh => by
          rcases (s z).mp hz' with hz' | hz'
          · exact hz z hz' ⟨hh.1, by omega⟩
          · omega) n
      · subst e1; subst e2
        exact absurd (.inl fun z hz' hh => by
          rcases (s z).mp hz' with hz' | hz'
          · exact hz z hz' ⟨by omega, hh.2⟩
          · omega) n
theorem ear_first {S S' : Int → Prop} {lo hi v x : Int} {R : List (Int × Int)} (h : Cut S lo hi R) (s : ∀ z, S' z ↔ S z ∨ z = v) (hv : v < lo) (sx : S x) (hx : lo < x ∧ x < hi) : Cut S' v hi ((lo, hi) :: R) := by
  obtain ⟨T, hT, hR⟩ := h.ex
  have hlt := hT.lt
  refine ⟨(s v).mpr (.inr rfl), (s hi).mpr (.inl h.shi), fun z hz => ?_, List.nodup_cons.mpr ⟨fun hm => ?_, h.nd⟩, .nd lo .lf T, ⟨(s lo).mpr (.inl h.slo), ⟨hv, fun z hz hh => ?_⟩, ?_⟩, fun a b => ?_⟩
  · rcases (s z).mp hz with hz | hz
    · have := h.bd z hz; omega
    · omega
  · exact ((hR lo hi).mp hm).2 (.inr ⟨rfl, rfl⟩)
  · rcases (s z).mp hz with hz | hz
    · have := h.bd z hz; omega
    · omega
  · exact hT.more (fun z hz => (s z).mpr (.inl hz)) fun z hz h1 h2 => ((s z).mp hz).resolve_right (by omega)
  · rw [List.mem_cons, hR a b]
    constructor
    · rintro (e | ⟨t, n⟩)
      · obtain ⟨rfl, rfl⟩ := Prod.mk.inj e
        refine ⟨.inr (.inr tie_root), ?_⟩
        rintro (w | w)
        · exact w x ((s x).mpr (.inl sx)) hx
        · omega
      · refine ⟨.inr (.inr t), ?_⟩
        have ti := tie_in hT t
        rintro (w | w)
        · exact n (.inl fun z hz => w z ((s z).mpr (.inl hz)))
        · omega
    · rintro ⟨⟨e1, e2⟩ | ⟨e1, e2⟩ | t, n⟩
      · exact absurd (.inr ⟨e1, e2⟩) n
      · refine absurd (.inl fun z hz hh => ?_) n
        rcases (s z).mp hz with hz | hz
        · have := h.bd z hz; omega
        · omega
      · have ti := tie_in hT t
        by_cases e : (a, b) = (lo, hi)
        · exact .inl e
        · refine .inr ⟨t, ?_⟩
          rintro (w | w)
          · refine n (.inl fun z hz hh => ?_)
            rcases (s z).mp hz with hz | hz
            · exact w z hz hh
            · omega
          · exact e (by rw [w.1, w.2])
theorem ear_last {S S' : Int → Prop} {lo hi v x : Int} {R : List (Int × Int)} (h : Cut S lo hi R) (s : ∀ z, S' z ↔ S z ∨ z = v) (hv : hi < v) (sx : S x) (hx : lo < x ∧ x < hi) : Cut S' lo v ((lo, hi) :: R) := by
  obtain ⟨T, hT, hR⟩ := h.ex
  have hlt := hT.lt
  refine ⟨(s lo).mpr (.inl h.slo), (s v).mpr (.inr rfl), fun z hz => ?_, List.nodup_cons.mpr ⟨fun hm => ?_, h.nd⟩, .nd hi T .lf, ⟨(s hi).mpr (.inl h.shi), ?_, ⟨hv, fun z hz hh => ?_⟩⟩, fun a b => ?_⟩
  · rcases (s z).mp hz with hz | hz
    · have := h.bd z hz; omega
    · omega
  · exact ((hR lo hi).mp hm).2 (.inr ⟨rfl, rfl⟩)
  · exact hT.more (fun z hz => (s z).mpr (.inl hz)) fun z hz h1 h2 => ((s z).mp hz).resolve_right (by omega)
  · rcases (s z).mp hz with hz | hz
    · have := h.bd z hz; omega
    · omega
  · rw [List.mem_cons, hR a b]
    constructor
    · rintro (e | ⟨t, n⟩)
      · obtain ⟨rfl, rfl⟩ := Prod.mk.inj e
        refine ⟨.inr (.inl tie_root), ?_⟩
        rintro (w | w)
        · exact w x ((s x).mpr (.inl sx)) hx
        · omega
      · refine ⟨.inr (.inl t), ?_⟩
        have ti := tie_in hT t
        rintro (w | w)
        · exact n (.inl fun z hz => w z ((s z).mpr (.inl hz)))
        · omega
    · rintro ⟨⟨e1, e2⟩ | t | ⟨e1, e2⟩, n⟩
      · exact absurd (.inr ⟨e1, e2⟩) n
      · have ti := tie_in hT t
        by_cases e : (a, b) = (lo, hi)
        · exact .inl e
        · refine .inr ⟨t, ?_⟩
          rintro (w | w)
          · refine n (.inl fun z hz hh => ?_)
            rcases (s z).mp hz with hz | hz
            · exact w z hz hh
            · omega
          · exact e (by rw [w.1, w.2])
      · refine absurd (.inl fun z hz hh => ?_) n
        rcases (s z).mp hz with hz | hz
        · have := h.bd z hz; omega
        · omega
theorem flip {S : Int → Prop} : ∀ {T : Tr} {lo hi a b : Int}, TOk S lo hi T → tie lo hi T a b → ¬ (a = lo ∧ b = hi) → ¬ (∀ z, S z → ¬ (a < z ∧ z < b)) →
    ∃ T' m p, TOk S lo hi T' ∧ a < m ∧ m < b ∧ tie lo hi T a m ∧ tie lo hi T m b ∧
      ((p < a ∧ tie lo hi T p a ∧ tie lo hi T p b ∧ ∀ x y, tie lo hi T' x y ↔ (tie lo hi T x y ∧ ¬ (x = a ∧ y = b)) ∨ (x = p ∧ y = m)) ∨
       (b < p ∧ tie lo hi T a p ∧ tie lo hi T b p ∧ ∀ x y, tie lo hi T' x y ↔ (tie lo hi T x y ∧ ¬ (x = a ∧ y = b)) ∨ (x = m ∧ y = p)))
  | .lf, lo, hi, a, b, h, t, n, _ => absurd t n
  | .nd m0 l r, lo, hi, a, b, ⟨sm, k1, k2⟩, t, n, na => by
    have q1 := k1.lt
    have q2 := k2.lt
    rcases t with t | t | t
    · exact absurd t n
    · have ti := tie_in k1 t
      by_cases e : a = lo ∧ b = m0
      · obtain ⟨e1, e2⟩ := e
        subst e1; subst e2
        match l, k1 with
        | .lf, k1 => exact absurd k1.2 na
        | .nd m1 l1 l2, ⟨sm1, j1, j2⟩ =>
          have r1 := j1.lt
          have r2 := j2.lt
          refine ⟨.nd m1 l1 (.nd b l2 r), m1, hi, ⟨sm1, j1, sm, j2, k2⟩, r1, r2, .inr (.inl (.inr (.inl tie_root))), .inr (.inl (.inr (.inr tie_root))), .inr ⟨q2, .inl ⟨rfl, rfl⟩, .inr (.inr tie_root), fun x y => ?_⟩⟩
          constructor
          · rintro (w | w | w | w | w)
            · exact .inl ⟨.inl w, by omega⟩
            · have := tie_in j1 w; exact .inl ⟨.inr (.inl (.inr (.inl w))), by omega⟩
            · exact .inr w
            · have := tie_in j2 w; exact .inl ⟨.inr (.inl (.inr (.inr w))), by omega⟩
            · have := tie_in k2 w; exact .inl ⟨.inr (.inr w), by omega⟩
          · rintro (⟨w | (w | w | w) | w, g⟩ | w)
            · exact .inl w
            · exact absurd w g
            · exact .inr (.inl w)
            · exact .inr (.inr (.inr (.inl w)))
            · exact .inr (.inr (.inr (.inr w)))
            · exact .inr (.inr (.inl w))
      · obtain ⟨T', m, p, hT', g1, g2, g3, g4, g5⟩ := flip k1 t e na
        refine ⟨.nd m0 T' r, m, p, ⟨sm, hT', k2⟩, g1, g2, .inr (.inl g3), .inr (.inl g4), ?_⟩
        rcases g5 with ⟨g5, g6, g7, g8⟩ | ⟨g5, g6, g7, g8⟩
        · refine .inl ⟨g5, .inr (.inl g6), .inr (.inl g7), fun x y => ?_⟩
          show (_ ∨ tie lo m0 T' x y ∨ _) ↔ _
          rw [g8 x y]
          constructor
          · rintro (w | (w | w) | w)
            · exact .inl ⟨.inl w, by omega⟩
            · exact .inl ⟨.inr (.inl w.1), w.2⟩
            · exact .inr w
            · have := tie_in k2 w; exact .inl ⟨.inr (.inr w), by omega⟩
          · rintro (⟨w | w | w, g⟩ | w)
            · exact .inl w
            · exact .inr (.inl (.inl ⟨w, g⟩))
            · exact .inr (.inr w)
            · exact .inr (.inl (.inr w))
        · refine .inr ⟨g5, .inr (.inl g6), .inr (.inl g7), fun x y => ?_⟩
          show (_ ∨ tie lo m0 T' x y ∨ _) ↔ _
          rw [g8 x y]
          constructor
          · rintro (w | (w | w) | w)
            · exact .inl ⟨.inl w, by omega⟩
            · exact .inl ⟨.inr (.inl w.1), w.2⟩
            · exact .inr w
            · have := tie_in k2 w; exact .inl ⟨.inr (.inr w), by omega⟩
          · rintro (⟨w | w | w, g⟩ | w)
            · exact .inl w
            · exact .inr (.inl (.inl ⟨w, g⟩))
            · exact .inr (.inr w)
            · exact .inr (.inl (.inr w))
    · have ti := tie_in k2 t
      by_cases e : a = m0 ∧ b = hi
      · obtain ⟨e1, e2⟩ := e
        subst e1; subst e2
        match r, k2 with
        | .lf, k2 => exact absurd k2.2 na
        | .nd m1 r1 r2, ⟨sm1, j1, j2⟩ =>
          have h1 := j1.lt
          have h2 := j2.lt
          refine ⟨.nd m1 (.nd a l r1) r2, m1, lo, ⟨sm1, ⟨sm, k1, j1⟩, j2⟩, h1, h2, .inr (.inr (.inr (.inl tie_root))), .inr (.inr (.inr (.inr tie_root))), .inl ⟨q1, .inr (.inl tie_root), .inl ⟨rfl, rfl⟩, fun x y => ?_⟩⟩
          constructor
          · rintro (w | (w | w | w) | w)
            · exact .inl ⟨.inl w, by omega⟩
            · exact .inr w
            · have := tie_in k1 w; exact .inl ⟨.inr (.inl w), by omega⟩
            · have := tie_in j1 w; exact .inl ⟨.inr (.inr (.inr (.inl w))), by omega⟩
            · have := tie_in j2 w; exact .inl ⟨.inr (.inr (.inr (.inr w))), by omega⟩
          · rintro (⟨w | w | (w | w | w), g⟩ | w)
            · exact .inl w
            · exact .inr (.inl (.inr (.inl w)))
            · exact absurd w g
            · exact .inr (.inl (.inr (.inr w)))
            · exact .inr (.inr w)
            · exact .inr (.inl (.inl w))
      · obtain ⟨T', m, p, hT', g1, g2, g3, g4, g5⟩ := flip k2 t e na
        refine ⟨.nd m0 l T', m, p, ⟨sm, k1, hT'⟩, g1, g2, .inr (.inr g3), .inr (.inr g4), ?_⟩
        rcases g5 with ⟨g5, g6, g7, g8⟩ | ⟨g5, g6, g7, g8⟩
        · refine .inl ⟨g5, .inr (.inr g6), .inr (.inr g7), fun x y => ?_⟩
          show (_ ∨ _ ∨ tie m0 hi T' x y) ↔ _
          rw [g8 x y]
          constructor
          · rintro (w | w | (w | w))
            · exact .inl ⟨.inl w, by omega⟩
            · have := tie_in k1 w; exact .inl ⟨.inr (.inl w), by omega⟩
            · exact .inl ⟨.inr (.inr w.1), w.2⟩
            · exact .inr w
          · rintro (⟨w | w | w, g⟩ | w)
            · exact .inl w
            · exact .inr (.inl w)
            · exact .inr (.inr (.inl ⟨w, g⟩))
            · exact .inr (.inr (.inr w))
        · refine .inr ⟨g5, .inr (.inr g6), .inr (.inr g7), fun x y => ?_⟩
          show (_ ∨ _ ∨ tie m0 hi T' x y) ↔ _
          rw [g8 x y]
          constructor
          · rintro (w | w | (w | w))
            · exact .inl ⟨.inl w, by omega⟩
            · have := tie_in k1 w; exact .inl ⟨.inr (.inl w), by omega⟩
            · exact .inl ⟨.inr (.inr w.1), w.2⟩
            · exact .inr w
          · rintro (⟨w | w | w, g⟩ | w)
            · exact .inl w
            · exact .inr (.inl w)
            · exact .inr (.inr (.inl ⟨w, g⟩))
            · exact .inr (.inr (.inr w))

/-! ### ears taken off, row by row -/
abbrev pr (a b : Int) : Int × Int := (min a b, max a b)
theorem sorted_lt {L : List Int} (h : L.Pairwise (· < ·)) {i j : Nat} {x y : Int} (hi : L[i]? = some x) (hj : L[j]? = some y) (hij : i < j) : x < y := by
  obtain ⟨h1, e1⟩ := List.getElem?_eq_some_iff.mp hi
  obtain ⟨h2, e2⟩ := List.getElem?_eq_some_iff.mp hj
  have := List.pairwise_iff_getElem.mp h i j h1 h2 hij
  rw [e1, e2] at this
  exact this
def CutL (L : List Int) (R : List (Int × Int)) : Prop := ∃ lo hi, L.head? = some lo ∧ L.getLast? = some hi ∧ Cut (· ∈ L) lo hi R
theorem sorted_split {A B : List Int} {v : Int} (h : (A ++ v :: B).Pairwise (· < ·)) : (∀ z ∈ A, z < v) ∧ (∀ z ∈ B, v < z) ∧ A.Pairwise (· < ·) ∧ B.Pairwise (· < ·) ∧ (∀ z ∈ A, ∀ y ∈ B, z < y) := by
  rw [List.pairwise_append, List.pairwise_cons] at h
  exact ⟨fun z hz => h.2.2 z hz v (List.mem_cons_self ..), h.2.1.1, h.1, h.2.1.2, fun z hz y hy => h.2.2 z hz y (List.mem_cons_of_mem _ hy)⟩
theorem mem_gap {A B : List Int} {v : Int} : ∀ z, z ∈ A ++ v :: B ↔ z ∈ A ++ B ∨ z = v := by
  intro z
  simp only [List.mem_append, List.mem_cons]
  constructor
  · rintro (h | h | h)
    · exact .inl (.inl h)
    · exact .inr h
    · exact .inl (.inr h)
  · rintro ((h | h) | h)
    · exact .inl h
    · exact .inr (.inr h)
    · exact .inr (.inl h)
theorem last_app {l m : List Int} (h : m ≠ []) : (l ++ m).getLast? = m.getLast? := by
  rw [List.getLast?_append]
  cases e : m.getLast? with
  | none => exact absurd (List.getLast?_eq_none_iff.mp e) h
  | some x => rfl
/-- the post at a place is left out: its neighbours get a rope -/
theorem ear_step {L : List Int} {k : Nat} {v p q : Int} {R : List (Int × Int)} (hL : L.Pairwise (· < ·)) (h4 : 4 ≤ L.length) (hv : L[k]? = some v)
    (hp : (if k = 0 then L.getLast? else L[k - 1]?) = some p) (hq : L[(k + 1) % L.length]? = some q) (h : CutL (L.take k ++ L.drop (k + 1)) R) : CutL L (pr p q :: R) := by
  obtain ⟨lo, hi, hlo, hhi, hc⟩ := h
  obtain ⟨hk, ev⟩ := List.getElem?_eq_some_iff.mp hv
  have eL : L = L.take k ++ v :: L.drop (k + 1) := by
    rw [← ev, ← List.drop_eq_getElem_cons hk, List.take_append_drop]
  have hs := hL
  rw [eL] at hs
  obtain ⟨s1, s2, s3, s4, s5⟩ := sorted_split hs
  have lA : (L.take k).length = k := by rw [List.length_take]; omega
  have lB : (L.drop (k + 1)).length = L.length - (k + 1) := List.length_drop
  have hpq := hp
  generalize eA : L.take k = A at *
  generalize eB : L.drop (k + 1) = B at *
  have sm : ∀ z, z ∈ L ↔ z ∈ A ++ B ∨ z = v := by rw [eL]; exact mem_gap
  have nv : ¬ v ∈ A ++ B := fun hm => by
    rcases List.mem_append.mp hm with hm | hm
    · exact absurd (s1 v hm) (Int.lt_irrefl _)
    · exact absurd (s2 v hm) (Int.lt_irrefl _)
  by_cases k0 : k = 0
  · -- the first
    subst k0
    have A0 : A = [] := List.length_eq_zero_iff.mp lA
    subst A0
    rw [List.nil_append] at *
    rw [Nat.mod_eq_of_lt (by omega)] at hq
    match B, lB with
    | [], lB => rw [List.length_nil] at lB; omega
    | [_], lB => rw [List.length_singleton] at lB; omega
    | [_, _], lB => simp only [List.length_cons, List.length_nil] at lB; omega
    | b0 :: b1 :: b2 :: B', lB =>
      rw [eL] at hq
      obtain rfl : b0 = q := by simpa using hq
      obtain rfl : b0 = lo := by simpa using hlo
      have e1 : L.getLast? = some hi := by
        rw [eL, List.getLast?_cons_cons]
        exact hhi
      rw [if_pos rfl, e1] at hp
      obtain rfl := Option.some.inj hp
      have hlt : b0 < b1 := (List.pairwise_cons.mp s4).1 b1 (by simp)
      have hb1 : b1 < hi := by
        rw [List.getLast?_cons_cons, List.getLast?_cons_cons] at hhi
        have hm : hi ∈ b2 :: B' := List.mem_of_getLast? hhi
        exact (List.pairwise_cons.mp (List.pairwise_cons.mp s4).2).1 hi hm
      have epr : pr hi b0 = (b0, hi) := by
        show (min hi b0, max hi b0) = _
        rw [Int.min_eq_right (by omega), Int.max_eq_left (by omega)]
      rw [epr]
      refine ⟨v, hi, by rw [eL]; rfl, e1, ear_first hc sm (s2 b0 (by simp)) (x := b1) (by simp) ⟨hlt, hb1⟩⟩
  · rw [if_neg k0] at hp
    have hkA : A ≠ [] := fun e => by rw [e] at lA; exact k0 lA.symm
    obtain ⟨A', a, eA'⟩ : ∃ A' a, A = A' ++ [a] := ⟨A.dropLast, A.getLast hkA, (List.dropLast_concat_getLast hkA).symm⟩
    subst eA'
    rw [List.length_append, List.length_singleton] at lA
    have epa : a = p := by
      rw [eL, List.append_assoc] at hp
      rw [List.getElem?_append_right (by omega)] at hp
      rw [show k - 1 - A'.length = 0 by omega] at hp
      exact Option.some.inj hp
    subst epa
    have hav : a < v := s1 a (by simp)
    match B, lB with
    | [], lB =>
      -- the last
      rw [List.length_nil] at lB
      have hkl : k + 1 = L.length := by omega
      rw [hkl, Nat.mod_self] at hq
      match A', lA with
      | [], lA => rw [List.length_nil] at lA; omega
      | a0 :: A'', lA =>
        rw [eL] at hq
        obtain rfl : a0 = q := by simpa using hq
        obtain rfl : a0 = lo := by simpa using hlo
        obtain rfl : a = hi := by
          rw [List.append_nil, List.getLast?_concat] at hhi
          exact Option.some.inj hhi
        match A'', lA with
        | [], lA => rw [List.length_singleton] at lA; omega
        | a1 :: A3, lA =>
          have h1 : a0 < a1 := (List.pairwise_cons.mp s3).1 a1 (by simp)
          have h2 : a1 < a := by
            have := (List.pairwise_cons.mp (List.pairwise_cons.mp s3).2).1 a (by simp)
            exact this
          have epr : pr a a0 = (a0, a) := by
            show (min a a0, max a a0) = _
            rw [Int.min_eq_right (by omega), Int.max_eq_left (by omega)]
          rw [epr]
          refine ⟨a0, v, by rw [eL]; rfl, by rw [eL, List.getLast?_concat], ear_last hc sm hav (x := a1) (by simp) ⟨h1, h2⟩⟩
    | b0 :: B', lB =>
      rw [List.length_cons] at lB
      rw [Nat.mod_eq_of_lt (by omega)] at hq
      have ebq : b0 = q := by
        rw [eL] at hq
        rw [List.getElem?_append_right (by rw [List.length_append, List.length_singleton]; omega), List.length_append, List.length_singleton] at hq
        rw [show k + 1 - (A'.length + 1) = 1 by omega] at hq
        exact Option.some.inj hq
      subst ebq
      have hvb : v < b0 := s2 b0 (by simp)
      have epr : pr a b0 = (a, b0) := by
        show (min a b0, max a b0) = _
        rw [Int.min_eq_left (by omega), Int.max_eq_right (by omega)]
      rw [epr]
      refine ⟨lo, hi, ?_, ?_, ear_mid hc sm nv (by simp) (by simp) hav hvb (fun z hz => ?_) ?_⟩
      · rw [eL]
        cases A' with
        | nil => simpa using hlo
        | cons x A' => simpa using hlo
      · rw [eL]
        rw [last_app (by simp)] at hhi ⊢
        rw [List.getLast?_cons_cons]
        exact hhi
      · rcases List.mem_append.mp hz with hz | hz
        · rcases List.mem_append.mp hz with hz | hz
          · have := (List.pairwise_append.mp s3).2.2 z hz a (by simp); omega
          · have := List.mem_singleton.mp hz; omega
        · rcases List.mem_cons.mp hz with hz | hz
          · omega
          · have := (List.pairwise_cons.mp s4).1 z hz; omega
      · rintro ⟨e1, e2⟩
        subst e1; subst e2
        have z1 : A' = [] := by
          cases A' with
          | nil => rfl
          | cons x A' =>
            obtain rfl : x = a := by simpa using hlo
            exact absurd ((List.pairwise_cons.mp s3).1 x (by simp)) (Int.lt_irrefl _)
        have z2 : B' = [] := by
          cases B' with
          | nil => rfl
          | cons x B' =>
            rw [last_app (by simp), List.getLast?_cons_cons] at hhi
            have hm : b0 ∈ x :: B' := List.mem_of_getLast? hhi
            exact absurd ((List.pairwise_cons.mp s4).1 b0 hm) (Int.lt_irrefl _)
        subst z1; subst z2
        simp only [List.length_nil] at lA lB
        omega
theorem cut3 {a b c : Int} (h1 : a < b) (h2 : b < c) : CutL [a, b, c] [] := by
  refine ⟨a, c, rfl, rfl, by simp, by simp, fun z hz => ?_, List.nodup_nil, .nd b .lf .lf, ⟨by simp, ⟨h1, fun z hz hh => ?_⟩, h2, fun z hz hh => ?_⟩, fun x y => ?_⟩
  · simp only [List.mem_cons, List.not_mem_nil, or_false] at hz
    omega
  · simp only [List.mem_cons, List.not_mem_nil, or_false] at hz
    omega
  · simp only [List.mem_cons, List.not_mem_nil, or_false] at hz
    omega
  · constructor
    · intro h; cases h
    · rintro ⟨w | w | w, n⟩
      · exact absurd (.inr w) n
      · obtain ⟨e1, e2⟩ := w
        refine absurd (.inl fun z hz hh => ?_) n
        simp only [List.mem_cons, List.not_mem_nil, or_false] at hz
        omega
      · obtain ⟨e1, e2⟩ := w
        refine absurd (.inl fun z hz hh => ?_) n
        simp only [List.mem_cons, List.not_mem_nil, or_false] at hz
        omega

/-! ### cuttings of n posts -/
def inR (n : Int) : Int → Prop := fun z => 0 ≤ z ∧ z < n
def rng (n : Int) : List Int := (List.range n.toNat).map (fun k : Nat => (k : Int))
def sidesL (n : Int) : List (Int × Int) := (rng (n - 1)).map (fun k => (k, k + 1)) ++ [(0, n - 1)]
theorem mem_rng {n z : Int} : z ∈ rng n ↔ 0 ≤ z ∧ z < n := by
  unfold rng
  rw [List.mem_map]
  constructor
  · rintro ⟨k, hk, rfl⟩
    have := List.mem_range.mp hk
    omega
  · rintro ⟨h1, h2⟩
    exact ⟨z.toNat, List.mem_range.mpr (by omega), by omega⟩
theorem rng_sorted (n : Int) : (rng n).Pairwise (· < ·) := by
  unfold rng
  rw [List.pairwise_map]
  exact (List.pairwise_lt_range).imp fun h => by omega
theorem rng_len (n : Int) : (rng n).length = n.toNat := by
  unfold rng; rw [List.length_map, List.length_range]
structure IsCut (n : Int) (R : List (Int × Int)) : Prop where
  three : 3 ≤ n
  nd : R.Nodup
  ex : ∃ T, TOk (inR n) 0 (n - 1) T ∧ ∀ a b, (a, b) ∈ R ↔ tie 0 (n - 1) T a b ∧ a + 2 ≤ b ∧ ¬ (a = 0 ∧ b = n - 1)
theorem isCut_of {n : Int} {R : List (Int × Int)} (h3 : 3 ≤ n) (h : CutL (rng n) R) : IsCut n R := by
  obtain ⟨lo, hi, hlo, hhi, hc⟩ := h
  have m1 := mem_rng.mp hc.slo
  have m2 := mem_rng.mp hc.shi
  have z1 := hc.bd 0 (mem_rng.mpr (by omega))
  have z2 := hc.bd (n - 1) (mem_rng.mpr (by omega))
  have e1 : lo = 0 := by omega
  have e2 : hi = n - 1 := by omega
  subst e1; subst e2
  obtain ⟨T, hT, hR⟩ := hc.ex
  have hT' : TOk (inR n) 0 (n - 1) T := hT.more (fun z hz => mem_rng.mp hz) fun z hz _ _ => mem_rng.mpr hz
  refine ⟨h3, hc.nd, T, hT', fun a b => (hR a b).trans ⟨?_, ?_⟩⟩
  · rintro ⟨t, n1⟩
    have ti := tie_in hT t
    refine ⟨t, ?_, fun e => n1 (.inr e)⟩
    rcases Int.lt_or_le (a + 1) b with h | h
    · omega
    · exact absurd (.inl fun z _ hh => by omega) n1
  · rintro ⟨t, g1, g2⟩
    have ti := tie_in hT t
    refine ⟨t, ?_⟩
    rintro (w | w)
    · exact w (a + 1) (mem_rng.mpr (by omega)) (by omega)
    · exact g2 w
theorem ties_iff {n : Int} {R : List (Int × Int)} {T : Tr} (h3 : 3 ≤ n) (hT : TOk (inR n) 0 (n - 1) T) (hR : ∀ a b, (a, b) ∈ R ↔ tie 0 (n - 1) T a b ∧ a + 2 ≤ b ∧ ¬ (a = 0 ∧ b = n - 1)) :
    ∀ a b, (a, b) ∈ sidesL n ++ R ↔ tie 0 (n - 1) T a b := by
  intro a b
  unfold sidesL
  rw [List.mem_append, List.mem_append, List.mem_singleton, List.mem_map, hR a b]
  constructor
  · rintro ((⟨k, hk, e⟩ | e) | h)
    · obtain ⟨rfl, rfl⟩ := Prod.mk.inj e
      have := mem_rng.mp hk
      exact tie_adj hT ⟨by omega, by omega⟩ ⟨by omega, by omega⟩ ⟨by omega, by omega⟩ ⟨by omega, by omega⟩ (by omega) (fun z _ hh => by omega) (by omega) (by omega)
    · obtain ⟨rfl, rfl⟩ := Prod.mk.inj e
      exact tie_root
    · exact h.1
  · intro t
    have ti := tie_in hT t
    by_cases h1 : a + 2 ≤ b
    · by_cases h2 : a = 0 ∧ b = n - 1
      · exact .inl (.inr (by rw [h2.1, h2.2]))
      · exact .inr ⟨t, h1, h2⟩
    · exact .inl (.inl ⟨a, mem_rng.mpr (by omega), by rw [show b = a + 1 by omega]⟩)
/-- x makes a plot with a and b -/
def Bes (lo hi : Int) (T : Tr) (a b x : Int) : Prop := (a < x ∧ x < b ∧ tie lo hi T a x ∧ tie lo hi T x b) ∨ (x < a ∧ tie lo hi T x a ∧ tie lo hi T x b) ∨ (b < x ∧ tie lo hi T a x ∧ tie lo hi T b x)
theorem bes_iff {S : Int → Prop} {lo hi a b x : Int} {T : Tr} (hT : TOk S lo hi T) (hab : a < b) : Bes lo hi T a b x ↔ tie lo hi T (min a x) (max a x) ∧ tie lo hi T (min b x) (max b x) := by
  constructor
  · rintro (⟨h1, h2, h3, h4⟩ | ⟨h1, h2, h3⟩ | ⟨h1, h2, h3⟩)
    · rw [Int.min_eq_left (by omega), Int.max_eq_right (by omega), Int.min_eq_right (by omega), Int.max_eq_left (by omega)]
      exact ⟨h3, h4⟩
    · rw [Int.min_eq_right (by omega), Int.max_eq_left (by omega), Int.min_eq_right (by omega), Int.max_eq_left (by omega)]
      exact ⟨h2, h3⟩
    · rw [Int.min_eq_left (by omega), Int.max_eq_right (by omega), Int.min_eq_left (by omega), Int.max_eq_right (by omega)]
      exact ⟨h2, h3⟩
  · rintro ⟨t, u⟩
    have t1 := tie_in hT t
    have u1 := tie_in hT u
    rcases Int.lt_trichotomy x a with h | h | h
    · rw [Int.min_eq_right (by omega), Int.max_eq_left (by omega)] at t u
      exact .inr (.inl ⟨h, t, u⟩)
    · omega
    · rcases Int.lt_trichotomy x b with g | g | g
      · rw [Int.min_eq_left (by omega), Int.max_eq_right (by omega)] at t
        rw [Int.min_eq_right (by omega), Int.max_eq_left (by omega)] at u
        exact .inl ⟨h, g, t, u⟩
      · omega
      · rw [Int.min_eq_left (by omega), Int.max_eq_right (by omega)] at t u
        exact .inr (.inr ⟨g, t, u⟩)
theorem bes_in {S : Int → Prop} {lo hi a b x y : Int} {T : Tr} (hT : TOk S lo hi T) (hab : a < b) (hx : Bes lo hi T a b x) (hy : Bes lo hi T a b y) (h1 : a < x) (h2 : x < b) (h3 : a < y) (h4 : y < b) : x = y := by
  rcases hx with ⟨_, _, x1, x2⟩ | ⟨_, x1, x2⟩ | ⟨_, x1, x2⟩ <;> rcases hy with ⟨_, _, y1, y2⟩ | ⟨_, y1, y2⟩ | ⟨_, y1, y2⟩ <;> first | omega | skip
  rcases Int.lt_trichotomy x y with h | h | h
  · exact (nocross hT y1 x2 h1 h h4).elim
  · exact h
  · exact (nocross hT x1 y2 h3 h h2).elim
theorem bes_out {S : Int → Prop} {lo hi a b x y : Int} {T : Tr} (hT : TOk S lo hi T) (hab : a < b) (hx : Bes lo hi T a b x) (hy : Bes lo hi T a b y) (h1 : ¬ (a < x ∧ x < b)) (h2 : ¬ (a < y ∧ y < b)) : x = y := by
  rcases hx with ⟨x0, x00, _, _⟩ | ⟨x0, x1, x2⟩ | ⟨x0, x1, x2⟩
  · exact absurd ⟨x0, x00⟩ h1
  · rcases hy with ⟨y0, y00, _, _⟩ | ⟨y0, y1, y2⟩ | ⟨y0, y1, y2⟩
    · exact absurd ⟨y0, y00⟩ h2
    · rcases Int.lt_trichotomy x y with h | h | h
      · exact (nocross hT x1 y2 h y0 hab).elim
      · exact h
      · exact (nocross hT y1 x2 h x0 hab).elim
    · exact (nocross hT x2 y1 x0 hab y0).elim
  · rcases hy with ⟨y0, y00, _, _⟩ | ⟨y0, y1, y2⟩ | ⟨y0, y1, y2⟩
    · exact absurd ⟨y0, y00⟩ h2
    · exact (nocross hT y2 x1 y0 hab x0).elim
    · rcases Int.lt_trichotomy x y with h | h | h
      · exact (nocross hT x1 y2 hab x0 h).elim
      · exact h
      · exact (nocross hT y1 x2 hab y0 h).elim
theorem sorted_ext {l m : List Int} (h1 : l.Pairwise (· < ·)) (h2 : m.Pairwise (· < ·)) (h : ∀ x, x ∈ l ↔ x ∈ m) : l = m := by
  have n1 : l.Nodup := h1.imp fun h => Int.ne_of_lt h
  have n2 : m.Nodup := h2.imp fun h => Int.ne_of_lt h
  exact List.Perm.eq_of_pairwise (le := (· < ·)) (fun a b _ _ x y => absurd (Int.lt_trans x y) (Int.lt_irrefl _)) h1 h2 ((List.perm_ext_iff_of_nodup n1 n2).mpr h)
def besL (t : List (Int × Int)) (n a b : Int) : List Int := (rng n).filter fun p => decide (pr a p ∈ t) && decide (pr b p ∈ t)
theorem besL_comm (t : List (Int × Int)) (n a b : Int) : besL t n a b = besL t n b a := by
  unfold besL
  refine List.filter_congr fun x _ => ?_
  rw [Bool.and_comm]
theorem besL_pr (t : List (Int × Int)) (n a b : Int) : besL t n a b = besL t n (pr a b).1 (pr a b).2 := by
  show _ = besL t n (min a b) (max a b)
  rcases Int.le_total a b with h | h
  · rw [Int.min_eq_left h, Int.max_eq_right h]
  · rw [Int.min_eq_right h, Int.max_eq_left h, besL_comm]
theorem besL_mem {n : Int} {t : List (Int × Int)} {T : Tr} (hT : TOk (inR n) 0 (n - 1) T) (ht : ∀ a b, (a, b) ∈ t ↔ tie 0 (n - 1) T a b) {a b : Int} (hab : a < b) : ∀ x, x ∈ besL t n a b ↔ Bes 0 (n - 1) T a b x := by
  intro x
  rw [bes_iff hT hab]
  unfold besL
  rw [List.mem_filter, Bool.and_eq_true, decide_eq_true_eq, decide_eq_true_eq, ht, ht, mem_rng]
  constructor
  · exact fun h => h.2
  · intro h
    have := tie_in hT h.1
    have := tie_in hT h.2
    refine ⟨?_, h⟩
    omega
theorem besL_sorted (t : List (Int × Int)) (n a b : Int) : (besL t n a b).Pairwise (· < ·) := (rng_sorted n).filter _
/-- beside a side stands one post, beside a rope two -/
theorem beside_side {n : Int} {t : List (Int × Int)} {T : Tr} (h3 : 3 ≤ n) (hT : TOk (inR n) 0 (n - 1) T) (ht : ∀ a b, (a, b) ∈ t ↔ tie 0 (n - 1) T a b) {a b : Int} (h : tie 0 (n - 1) T a b) (hs : ¬ (a + 2 ≤ b ∧ ¬ (a = 0 ∧ b = n - 1))) :
    ∃ m, besL t n a b = [m] := by
  have ti := tie_in hT h
  have hm := besL_mem hT ht ti.2.1
  by_cases h1 : a + 2 ≤ b
  · have h2 : a = 0 ∧ b = n - 1 := Decidable.by_contra fun q => hs ⟨h1, q⟩
    rcases inner hT h with q | ⟨m, q1, q2, q3, q4⟩
    · exact absurd (q (a + 1) ⟨by omega, by omega⟩) (by omega)
    · have hb : Bes 0 (n - 1) T a b m := .inl ⟨q1, q2, q3, q4⟩
      refine ⟨m, sorted_ext (besL_sorted ..) (List.pairwise_singleton ..) fun x => ?_⟩
      rw [hm, List.mem_singleton]
      constructor
      · intro g
        have : a < x ∧ x < b := by
          rcases g with ⟨g1, g2, _, _⟩ | ⟨g1, g2, g3⟩ | ⟨g1, g2, g3⟩
          · exact ⟨g1, g2⟩
          · have := tie_in hT g2; omega
          · have := tie_in hT g2; omega
        exact bes_in hT ti.2.1 g hb this.1 this.2 q1 q2
      · rintro rfl
        exact hb
  · obtain ⟨p, hp⟩ := outer hT h (by omega)
    have hb : Bes 0 (n - 1) T a b p := by
      rcases hp with hp | hp
      · exact .inr (.inl hp)
      · exact .inr (.inr hp)
    refine ⟨p, sorted_ext (besL_sorted ..) (List.pairwise_singleton ..) fun x => ?_⟩
    rw [hm, List.mem_singleton]
    constructor
    · intro g
      exact bes_out hT ti.2.1 g hb (by omega) (by omega)
    · rintro rfl
      exact hb
theorem beside_rope {n : Int} {t : List (Int × Int)} {T : Tr} (hT : TOk (inR n) 0 (n - 1) T) (ht : ∀ a b, (a, b) ∈ t ↔ tie 0 (n - 1) T a b) {a b : Int} (h : tie 0 (n - 1) T a b) (h1 : a + 2 ≤ b) (h2 : ¬ (a = 0 ∧ b = n - 1)) :
    ∃ m p T', a < m ∧ m < b ∧ TOk (inR n) 0 (n - 1) T' ∧ ((p < a ∧ 0 ≤ p ∧ besL t n a b = [p, m] ∧ ∀ x y, tie 0 (n - 1) T' x y ↔ (tie 0 (n - 1) T x y ∧ ¬ (x = a ∧ y = b)) ∨ (x = p ∧ y = m)) ∨
      (b < p ∧ p < n ∧ besL t n a b = [m, p] ∧ ∀ x y, tie 0 (n - 1) T' x y ↔ (tie 0 (n - 1) T x y ∧ ¬ (x = a ∧ y = b)) ∨ (x = m ∧ y = p))) := by
  have ti := tie_in hT h
  have hm := besL_mem hT ht ti.2.1
  obtain ⟨T', m, p, hT', g1, g2, g3, g4, g5⟩ := flip hT h h2 (fun q => q (a + 1) ⟨by omega, by omega⟩ (by omega))
  refine ⟨m, p, T', g1, g2, hT', ?_⟩
  have bm : Bes 0 (n - 1) T a b m := .inl ⟨g1, g2, g3, g4⟩
  rcases g5 with ⟨q1, q2, q3, q4⟩ | ⟨q1, q2, q3, q4⟩
  · have bp : Bes 0 (n - 1) T a b p := .inr (.inl ⟨q1, q2, q3⟩)
    refine .inl ⟨q1, (tie_in hT q2).1, sorted_ext (besL_sorted ..) (by simp; omega) fun x => ?_, q4⟩
    rw [hm]
    simp only [List.mem_cons, List.not_mem_nil, or_false]
    constructor
    · intro g
      by_cases hx : a < x ∧ x < b
      · exact .inr (bes_in hT ti.2.1 g bm hx.1 hx.2 g1 g2)
      · exact .inl (bes_out hT ti.2.1 g bp hx (by omega))
    · rintro (rfl | rfl)
      · exact bp
      · exact bm
  · have bp : Bes 0 (n - 1) T a b p := .inr (.inr ⟨q1, q2, q3⟩)
    have tq := tie_in hT q2
    refine .inr ⟨q1, by omega, sorted_ext (besL_sorted ..) (by simp; omega) fun x => ?_, q4⟩
    rw [hm]
    simp only [List.mem_cons, List.not_mem_nil, or_false]
    constructor
    · intro g
      by_cases hx : a < x ∧ x < b
      · exact .inl (bes_in hT ti.2.1 g bm hx.1 hx.2 g1 g2)
      · exact .inr (bes_out hT ti.2.1 g bp hx (by omega))
    · rintro (rfl | rfl)
      · exact bm
      · exact bp
theorem beside_cnt {n : Int} {R t : List (Int × Int)} (hc : IsCut n R) (ht : ∀ p, p ∈ t ↔ p ∈ sidesL n ++ R) {a b : Int} (h : pr a b ∈ t) : (besL t n a b).length = 1 + (if pr a b ∈ R then 1 else 0) := by
  obtain ⟨T, hT, hR⟩ := hc.ex
  have ht' : ∀ a b, (a, b) ∈ t ↔ tie 0 (n - 1) T a b := fun a b => (ht _).trans (ties_iff hc.three hT hR a b)
  rw [besL_pr]
  generalize e : pr a b = q at *
  obtain ⟨a', b'⟩ := q
  have h' := (ht' a' b').mp h
  show (besL t n a' b').length = _
  by_cases hr : a' + 2 ≤ b' ∧ ¬ (a' = 0 ∧ b' = n - 1)
  · rw [if_pos ((hR a' b').mpr ⟨h', hr⟩)]
    obtain ⟨m, p, T', _, _, _, g | g⟩ := beside_rope hT ht' h' hr.1 hr.2
    · rw [g.2.2.1]; rfl
    · rw [g.2.2.1]; rfl
  · rw [if_neg (fun q => hr ((hR a' b').mp q).2)]
    obtain ⟨m, e⟩ := beside_side hc.three hT ht' h' hr
    rw [e]; rfl
/-- turning a rope makes a cutting -/
theorem turn_cut {n : Int} {R t : List (Int × Int)} (hc : IsCut n R) (ht : ∀ p, p ∈ t ↔ p ∈ sidesL n ++ R) {a b : Int} (h : (a, b) ∈ R) :
    ∃ x y, besL t n a b = [x, y] ∧ 0 ≤ x ∧ x < y ∧ y < n ∧ (x, y) ∉ R ∧ ((x < a ∧ a < y ∧ y < b) ∨ (a < x ∧ x < b ∧ b < y)) ∧ ∀ R' : List (Int × Int), R'.Nodup → (∀ p, p ∈ R' ↔ (p ∈ R ∧ p ≠ (a, b)) ∨ p = (x, y)) → IsCut n R' := by
  obtain ⟨T, hT, hR⟩ := hc.ex
  have ht' : ∀ a b, (a, b) ∈ t ↔ tie 0 (n - 1) T a b := fun a b => (ht _).trans (ties_iff hc.three hT hR a b)
  obtain ⟨h1, h2, h3⟩ := (hR a b).mp h
  have ti := tie_in hT h1
  obtain ⟨m, p, T', g1, g2, hT', g | g⟩ := beside_rope hT ht' h1 h2 h3
  · obtain ⟨q1, q2, q3, q4⟩ := g
    refine ⟨p, m, q3, q2, by omega, by omega, fun hm => ?_, .inl ⟨q1, g1, g2⟩, fun R' hn hR' => ⟨hc.three, hn, T', hT', fun x y => ?_⟩⟩
    · exact nocross hT ((hR p m).mp hm).1 h1 q1 g1 g2
    · rw [hR', hR, q4]
      constructor
      · rintro (⟨⟨w1, w2⟩, w3⟩ | w)
        · exact ⟨.inl ⟨w1, fun e => w3 (by rw [e.1, e.2])⟩, w2⟩
        · obtain ⟨rfl, rfl⟩ := Prod.mk.inj w
          exact ⟨.inr ⟨rfl, rfl⟩, by omega, by omega⟩
      · rintro ⟨⟨w1, w2⟩ | ⟨e1, e2⟩, w3⟩
        · exact .inl ⟨⟨w1, w3⟩, fun e => w2 (Prod.mk.inj e)⟩
        · exact .inr (by rw [e1, e2])
  · obtain ⟨q1, q2, q3, q4⟩ := g
    refine ⟨m, p, q3, by omega, by omega, q2, fun hm => ?_, .inr ⟨g1, g2, q1⟩, fun R' hn hR' => ⟨hc.three, hn, T', hT', fun x y => ?_⟩⟩
    · exact nocross hT h1 ((hR m p).mp hm).1 g1 g2 q1
    · rw [hR', hR, q4]
      constructor
      · rintro (⟨⟨w1, w2⟩, w3⟩ | w)
        · exact ⟨.inl ⟨w1, fun e => w3 (by rw [e.1, e.2])⟩, w2⟩
        · obtain ⟨rfl, rfl⟩ := Prod.mk.inj w
          exact ⟨.inr ⟨rfl, rfl⟩, by omega, by omega⟩
      · rintro ⟨⟨w1, w2⟩ | ⟨e1, e2⟩, w3⟩
        · exact .inl ⟨⟨w1, w3⟩, fun e => w2 (Prod.mk.inj e)⟩
        · exact .inr (by rw [e1, e2])

/-! ### the ears one behind the other, and the posts set back behind them -/
abbrev Tri3 := Int × Int × Int
/-- y stands next behind x in the ring of L -/
def CN (L : List Int) (x y : Int) : Prop := (x < y ∧ ∀ z ∈ L, ¬ (x < z ∧ z < y)) ∨ (y < x ∧ ∀ z ∈ L, y ≤ z ∧ z ≤ x)
def Nb (L : List Int) (a b : Int) : Prop := a < b ∧ ((∀ z ∈ L, ¬ (a < z ∧ z < b)) ∨ ∀ z ∈ L, a ≤ z ∧ z ≤ b)
theorem CN.nb {L : List Int} {x y : Int} (h : CN L x y) : Nb L (pr x y).1 (pr x y).2 := by
  show Nb L (min x y) (max x y)
  rcases h with ⟨h1, h2⟩ | ⟨h1, h2⟩
  · rw [Int.min_eq_left (by omega), Int.max_eq_right (by omega)]
    exact ⟨h1, .inl h2⟩
  · rw [Int.min_eq_right (by omega), Int.max_eq_left (by omega)]
    exact ⟨h1, .inr h2⟩
theorem sorted_le {L : List Int} (h : L.Pairwise (· < ·)) {i j : Nat} {x y : Int} (hi : L[i]? = some x) (hj : L[j]? = some y) (hij : i ≤ j) : x ≤ y := by
  rcases Nat.lt_or_eq_of_le hij with e | e
  · exact Int.le_of_lt (sorted_lt h hi hj e)
  · subst e
    rw [hi] at hj
    exact Int.le_of_eq (Option.some.inj hj)
theorem cn_at {L : List Int} (h : L.Pairwise (· < ·)) {i : Nat} {x y : Int} (hi : L[i]? = some x) (hj : L[i + 1]? = some y) : CN L x y := by
  refine .inl ⟨sorted_lt h hi hj (by omega), fun z hz hh => ?_⟩
  obtain ⟨k, hk⟩ := List.getElem?_of_mem hz
  rcases Nat.lt_or_ge i k with e | e
  · have := sorted_le h hj hk e
    omega
  · have := sorted_le h hk hi e
    omega
theorem cn_round {L : List Int} (h : L.Pairwise (· < ·)) {x y : Int} (h2 : 2 ≤ L.length) (hi : L[L.length - 1]? = some x) (hj : L[0]? = some y) : CN L x y := by
  refine .inr ⟨sorted_lt h hj hi (by omega), fun z hz => ?_⟩
  obtain ⟨k, hk⟩ := List.getElem?_of_mem hz
  have hkl := (List.getElem?_eq_some_iff.mp hk).1
  exact ⟨sorted_le h hj hk (by omega), sorted_le h hk hi (by omega)⟩
theorem cn_prev {L : List Int} (h : L.Pairwise (· < ·)) (h2 : 2 ≤ L.length) {k : Nat} {v p : Int} (hv : L[k]? = some v) (hp : (if k = 0 then L.getLast? else L[k - 1]?) = some p) : CN L p v ∧ p ∈ L := by
  by_cases e : k = 0
  · subst e
    rw [if_pos rfl, List.getLast?_eq_getElem?] at hp
    exact ⟨cn_round h h2 hp hv, List.mem_of_getElem? hp⟩
  · rw [if_neg e] at hp
    have e2 : k = (k - 1) + 1 := by omega
    rw [e2] at hv
    exact ⟨cn_at h hp hv, List.mem_of_getElem? hp⟩
theorem cn_next {L : List Int} (h : L.Pairwise (· < ·)) (h2 : 2 ≤ L.length) {k : Nat} {v q : Int} (hv : L[k]? = some v) (hq : L[(k + 1) % L.length]? = some q) : CN L v q ∧ q ∈ L := by
  have hk := (List.getElem?_eq_some_iff.mp hv).1
  by_cases e : k + 1 = L.length
  · rw [e, Nat.mod_self] at hq
    have e2 : k = L.length - 1 := by omega
    rw [e2] at hv
    exact ⟨cn_round h h2 hv hq, List.mem_of_getElem? hq⟩
  · rw [Nat.mod_eq_of_lt (by omega)] at hq
    exact ⟨cn_at h hv hq, List.mem_of_getElem? hq⟩
inductive EarSeq : List Int → List Tri3 → List Int → Prop where
  | nil {L : List Int} : L.length = 3 → L.Pairwise (· < ·) → EarSeq L [] L
  | cons {L L' : List Int} {v p q : Int} {es : List Tri3} {F : List Int} : v ∈ L → p ∈ L → q ∈ L → CN L p v → CN L v q → (∀ z, z ∈ L' ↔ z ∈ L ∧ z ≠ v) → EarSeq L' es F → EarSeq L ((v, p, q) :: es) F
def TieAdj (t : List (Int × Int)) (L : List Int) : Prop := ∀ a b, a ∈ L → b ∈ L → Nb L a b → (a, b) ∈ t
theorem TieAdj.step {t : List (Int × Int)} {L L' : List Int} {v p q : Int} (h : TieAdj t L) (hp : p ∈ L) (hq : q ∈ L) (c1 : CN L p v) (c2 : CN L v q) (hm : ∀ z, z ∈ L' ↔ z ∈ L ∧ z ≠ v) (hr : pr p q ∈ t) : TieAdj t L' := by
  rintro a b ha hb ⟨ab, hn⟩
  have ha2 := (hm a).mp ha
  have hb2 := (hm b).mp hb
  have up : p ≠ v := by rcases c1 with ⟨c, _⟩ | ⟨c, _⟩ <;> omega
  have uq : q ≠ v := by rcases c2 with ⟨c, _⟩ | ⟨c, _⟩ <;> omega
  have hp2 := (hm p).mpr ⟨hp, up⟩
  have hq2 := (hm q).mpr ⟨hq, uq⟩
  have fin : (p = a ∧ q = b) ∨ (p = b ∧ q = a) → (a, b) ∈ t := by
    rintro (⟨e1, e2⟩ | ⟨e1, e2⟩)
    · subst e1; subst e2
      have e : pr p q = (p, q) := by
        show (min p q, max p q) = _
        rw [Int.min_eq_left (by omega), Int.max_eq_right (by omega)]
      rw [← e]; exact hr
    · subst e1; subst e2
      have e : pr p q = (q, p) := by
        show (min p q, max p q) = _
        rw [Int.min_eq_right (by omega), Int.max_eq_left (by omega)]
      rw [← e]; exact hr
  rcases hn with hn | hn
  · by_cases hv : a < v ∧ v < b
    · have n1 := hn p hp2
      have n2 := hn q hq2
      refine fin (.inl ⟨?_, ?_⟩)
      · rcases c1 with ⟨c, d⟩ | ⟨c, d⟩
        · have := d a ha2.1; omega
        · have := d a ha2.1; omega
      · rcases c2 with ⟨c, d⟩ | ⟨c, d⟩
        · have := d b hb2.1; omega
        · have := d b hb2.1; omega
    · refine h a b ha2.1 hb2.1 ⟨ab, .inl fun z hz hh => ?_⟩
      by_cases e : z = v
      · subst e; exact hv hh
      · exact hn z ((hm z).mpr ⟨hz, e⟩) hh
  · by_cases hv : a ≤ v ∧ v ≤ b
    · refine h a b ha2.1 hb2.1 ⟨ab, .inr fun z hz => ?_⟩
      by_cases e : z = v
      · subst e; exact hv
      · exact hn z ((hm z).mpr ⟨hz, e⟩)
    · have n1 := hn p hp2
      have n2 := hn q hq2
      refine fin (.inr ⟨?_, ?_⟩)
      · rcases c1 with ⟨c, d⟩ | ⟨c, d⟩
        · have := d a ha2.1; have := d b hb2.1; omega
        · have := d a ha2.1; have := d b hb2.1; omega
      · rcases c2 with ⟨c, d⟩ | ⟨c, d⟩
        · have := d a ha2.1; have := d b hb2.1; omega
        · have := d a ha2.1; have := d b hb2.1; omega
theorem EarSeq.mem {L F : List Int} {es : List Tri3} (h : EarSeq L es F) : ∀ z, z ∈ F ↔ z ∈ L ∧ z ∉ es.map (·.1) := by
  induction h with
  | nil => intro z; simp
  | cons hv hp hq c1 c2 hm _ ih =>
    intro z
    rw [ih z, hm z, List.map_cons, List.mem_cons, not_or]
    constructor
    · rintro ⟨⟨a, b⟩, c⟩; exact ⟨a, b, c⟩
    · rintro ⟨a, b, c⟩; exact ⟨⟨a, b⟩, c⟩
theorem EarSeq.fin {L F : List Int} {es : List Tri3} (h : EarSeq L es F) : F.length = 3 ∧ F.Pairwise (· < ·) := by
  induction h with
  | nil a b => exact ⟨a, b⟩
  | cons _ _ _ _ _ _ _ ih => exact ih
theorem EarSeq.adj {t : List (Int × Int)} {L F : List Int} {es : List Tri3} (h : EarSeq L es F) : TieAdj t L → (∀ e ∈ es, pr e.2.1 e.2.2 ∈ t) → TieAdj t F := by
  induction h with
  | nil => exact fun a _ => a
  | cons hv hp hq c1 c2 hm _ ih => exact fun a r => ih (a.step hp hq c1 c2 hm (r _ (List.mem_cons_self ..))) fun e he => r e (List.mem_cons_of_mem _ he)
/-- each post in turn is tied to two that stand already, and these to one another -/
def Steps (t : List (Int × Int)) (P : Int → Prop) : List Tri3 → Prop
  | [] => True
  | e :: ms => P e.2.1 ∧ P e.2.2 ∧ pr e.1 e.2.1 ∈ t ∧ pr e.1 e.2.2 ∈ t ∧ pr e.2.1 e.2.2 ∈ t ∧ Steps t (fun z => z = e.1 ∨ P z) ms
theorem Steps.mono {t : List (Int × Int)} : ∀ {ms : List Tri3} {P P' : Int → Prop}, Steps t P ms → (∀ z, P z → P' z) → Steps t P' ms
  | [], _, _, _, _ => trivial
  | _ :: _, _, _, ⟨a, b, c, d, e, f⟩, h => ⟨h _ a, h _ b, c, d, e, f.mono fun z hz => hz.imp_right (h z)⟩
theorem Steps.app {t : List (Int × Int)} : ∀ {xs ys : List Tri3} {P : Int → Prop}, Steps t P xs → Steps t (fun z => P z ∨ z ∈ xs.map (·.1)) ys → Steps t P (xs ++ ys)
  | [], _, _, _, h => h.mono fun z hz => hz.elim id fun q => nomatch q
  | x :: xs, ys, P, ⟨a, b, c, d, e, f⟩, h => ⟨a, b, c, d, e, f.app (h.mono fun z hz => by
      rcases hz with hz | hz
      · exact .inl (.inr hz)
      · rw [List.map_cons] at hz
        rcases List.mem_cons.mp hz with e | e
        · exact .inl (.inl e)
        · exact .inr e)⟩
theorem Steps.at {t : List (Int × Int)} : ∀ {ms : List Tri3} {P : Int → Prop} {i : Nat} {e : Tri3}, Steps t P ms → ms[i]? = some e → (P e.2.1 ∨ e.2.1 ∈ (ms.take i).map (·.1)) ∧ (P e.2.2 ∨ e.2.2 ∈ (ms.take i).map (·.1)) ∧ pr e.1 e.2.1 ∈ t ∧ pr e.1 e.2.2 ∈ t ∧ pr e.2.1 e.2.2 ∈ t
  | [], _, _, _, _, h => nomatch h
  | x :: xs, P, 0, e, ⟨a, b, c, d, g, _⟩, h => by
    cases (Option.some.inj h : x = e)
    exact ⟨.inl a, .inl b, c, d, g⟩
  | x :: xs, P, i + 1, e, ⟨_, _, _, _, _, f⟩, h => by
    have h : xs[i]? = some e := h
    obtain ⟨a, b, c⟩ := f.at h
    have go : ∀ {z : Int}, ((z = x.1 ∨ P z) ∨ z ∈ (xs.take i).map (·.1)) → (P z ∨ z ∈ ((x :: xs).take (i + 1)).map (·.1)) := fun {z} hz => by
      rw [List.take_succ_cons, List.map_cons, List.mem_cons]
      rcases hz with (h | h) | h
      · exact .inr (.inl h)
      · exact .inl h
      · exact .inr (.inr h)
    exact ⟨go a, go b, c⟩
theorem EarSeq.steps {t : List (Int × Int)} {L F : List Int} {es : List Tri3} (h : EarSeq L es F) : TieAdj t L → (∀ e ∈ es, pr e.2.1 e.2.2 ∈ t) → Steps t (· ∈ F) es.reverse := by
  induction h with
  | nil => exact fun _ _ => trivial
  | @cons L L' v p q es F hv hp hq c1 c2 hm hs ih =>
    intro a r
    have rr := r _ (List.mem_cons_self ..)
    rw [List.reverse_cons]
    refine (ih (a.step hp hq c1 c2 hm rr) fun e he => r e (List.mem_cons_of_mem _ he)).app ?_
    have up : p ≠ v := by rcases c1 with ⟨c, _⟩ | ⟨c, _⟩ <;> omega
    have uq : q ≠ v := by rcases c2 with ⟨c, _⟩ | ⟨c, _⟩ <;> omega
    have go : ∀ {z : Int}, z ∈ L → z ≠ v → z ∈ F ∨ z ∈ (es.reverse).map (·.1) := fun {z} h1 h2 => by
      by_cases e : z ∈ es.map (·.1)
      · refine .inr ?_
        rw [List.map_reverse, List.mem_reverse]
        exact e
      · exact .inl ((hs.mem z).mpr ⟨(hm z).mpr ⟨h1, h2⟩, e⟩)
    have n1 := a _ _ (by rcases c1.nb.1 with _; exact (by show min p v ∈ L; rw [Int.min_def]; split <;> assumption)) (by show max p v ∈ L; rw [Int.max_def]; split <;> assumption) c1.nb
    have n2 := a _ _ (by show min v q ∈ L; rw [Int.min_def]; split <;> assumption) (by show max v q ∈ L; rw [Int.max_def]; split <;> assumption) c2.nb
    refine ⟨go hp up, go hq uq, ?_, n2, rr, trivial⟩
    have e : pr v p = pr p v := by
      show (min v p, max v p) = (min p v, max p v)
      rw [Int.min_comm, Int.max_comm]
    show pr v p ∈ t
    rw [e]
    exact n1
/-- the whole row of steps, the last three posts' first -/
theorem EarSeq.whole {t : List (Int × Int)} {L F : List Int} {es : List Tri3} (h : EarSeq L es F) (ha : TieAdj t L) (hr : ∀ e ∈ es, pr e.2.1 e.2.2 ∈ t) :
    ∃ l0 l1 l2, F = [l0, l1, l2] ∧ l0 < l1 ∧ (l0, l1) ∈ t ∧ Steps t (fun z => z = l0 ∨ z = l1) ((l2, l0, l1) :: es.reverse) ∧ ∀ z, z ∈ L → z = l0 ∨ z = l1 ∨ z ∈ ((l2, l0, l1) :: es.reverse).map (·.1) := by
  obtain ⟨f1, f2⟩ := h.fin
  have fa := h.adj ha hr
  have fs := h.steps ha hr
  have fm := h.mem
  obtain ⟨a, b, c, rfl⟩ : ∃ a b c, F = [a, b, c] := by
    match F, f1 with
    | [a, b, c], _ => exact ⟨a, b, c, rfl⟩
  have c1 := (List.pairwise_cons.mp f2).1 b (by simp)
  have c2 := (List.pairwise_cons.mp (List.pairwise_cons.mp f2).2).1 c (by simp)
  have pl : ∀ {x y : Int}, x < y → pr x y = (x, y) ∧ pr y x = (x, y) := fun {x y} h => by
    refine ⟨?_, ?_⟩
    · show (min x y, max x y) = _
      rw [Int.min_eq_left (by omega), Int.max_eq_right (by omega)]
    · show (min y x, max y x) = _
      rw [Int.min_eq_right (by omega), Int.max_eq_left (by omega)]
  have t1 : (a, b) ∈ t := fa a b (by simp) (by simp) ⟨c1, .inl fun z hz => by simp at hz; omega⟩
  have t2 : (b, c) ∈ t := fa b c (by simp) (by simp) ⟨c2, .inl fun z hz => by simp at hz; omega⟩
  have t3 : (a, c) ∈ t := fa a c (by simp) (by simp) ⟨by omega, .inr fun z hz => by simp at hz; omega⟩
  refine ⟨a, b, c, rfl, c1, t1, ⟨.inl rfl, .inr rfl, by rw [(pl (show a < c by omega)).2]; exact t3, by rw [(pl c2).2]; exact t2, by rw [(pl c1).1]; exact t1, fs.mono fun z hz => ?_⟩, fun z hz => ?_⟩
  · simp at hz
    rcases hz with e | e | e
    · exact .inr (.inl e)
    · exact .inr (.inr e)
    · exact .inl e
  · by_cases e : z ∈ es.map (·.1)
    · refine .inr (.inr ?_)
      rw [List.map_cons, List.mem_cons, List.map_reverse, List.mem_reverse]
      exact .inr e
    · have := (fm z).mpr ⟨hz, e⟩
      simp at this
      rw [List.map_cons, List.mem_cons]
      rcases this with h | h | h
      · exact .inl h
      · exact .inr (.inl h)
      · exact .inr (.inr (.inl h))

theorem cut_ints (rs : List Int) (lo : Int) (h0 : 0 ≤ lo) : ∃ rs' : List Int, cutV (rs.map V.int) (some lo) none = rs'.map V.int ∧ rs'.length = rs.length - lo.toNat := by
  refine ⟨(rs.drop lo.toNat), ?_, List.length_drop⟩
  unfold cutV
  rw [HT.sIx_none]
  have e : HT.sIx (rs.map V.int).length 0 (some lo) = min lo.toNat (rs.map V.int).length := by
    show (if lo < 0 then _ else _) = _
    rw [if_neg (by omega)]
  rw [e, List.length_map]
  have h2 : (rs.map V.int).drop (min lo.toNat rs.length) = (rs.drop lo.toNat).map V.int := by
    rw [List.map_drop]
    rcases Nat.le_total lo.toNat rs.length with h | h
    · rw [Nat.min_eq_left h]
    · rw [Nat.min_eq_right h, List.drop_of_length_le (by rw [List.length_map]; exact Nat.le_refl _), List.drop_of_length_le (by rw [List.length_map]; exact h)]
  rw [h2, List.take_of_length_le]
  rw [List.length_map, List.length_drop]
  omega
theorem int_at {rs : List Int} {k : Nat} (h : k < rs.length) : ∃ v : Int, v ∈ rs ∧ atI (rs.map V.int) (k : Int) = some (.int v) := by
  refine ⟨rs[k], List.getElem_mem h, atI_nat ?_⟩
  rw [List.getElem?_map, List.getElem?_eq_getElem h]
  rfl

theorem cut_take (xs : List V) (k : Nat) : cutV xs none (some (k : Int)) = xs.take k := by
  unfold cutV
  rw [HT.sIx_none, HT.sIx_nat, List.drop_zero, Nat.sub_zero, Nat.min_def]
  split
  · rfl
  · rw [List.take_length, List.take_of_length_le (by omega)]
theorem cut_drop (xs : List V) (k : Nat) : cutV xs (some (k : Int)) none = xs.drop k := by
  unfold cutV
  rw [HT.sIx_none, HT.sIx_nat]
  have e : xs.drop (min k xs.length) = xs.drop k := by
    rw [Nat.min_def]
    split
    · rfl
    · rw [List.drop_length, List.drop_of_length_le (by omega)]
  rw [e, List.take_of_length_le]
  rw [List.length_drop]
  omega
theorem yes_read {A B : Hp → Prop} {σ : L2.St} {H : Hp} (h : A H) : tYes σ H (fun b H3 => if b = true then A H3 else B H3) := by
  show if true = true then A H else B H
  rw [if_pos rfl]
  exact h
theorem small200 {n : Nat} (h : n ≤ 200) : n ≤ sizeLine := Nat.le_trans h (by decide)
theorem small200' {n : Nat} (h : n < 200) : n < sizeLine := Nat.lt_of_lt_of_le h (by decide)
theorem take_more {α : Type} {l : List α} {i : Nat} {x : α} (h : l[i]? = some x) : l.take (i + 1) = l.take i ++ [x] := by
  rw [List.take_add_one, h]; rfl
theorem rng_more (n : Int) (i : Nat) (h : i < n.toNat) : (rng n).take (i + 1) = (rng n).take i ++ [(i : Int)] := by
  refine take_more ?_
  unfold rng
  rw [List.getElem?_map, List.getElem?_range h]
  rfl

theorem and_t {A B : Prop} [Decidable A] [Decidable B] (h : decide A = true) : decide (A ∧ B) = decide B := by
  have := of_decide_eq_true h
  rw [decide_eq_decide]
  exact ⟨fun h => h.2, fun h => ⟨this, h⟩⟩
theorem and_f {A B : Prop} [Decidable A] [Decidable B] (h : ¬ decide A = true) : decide (A ∧ B) = false := decide_eq_false fun q => nd h q.1
theorem pmin (a b : Int) : (if b < a then b else a) = min a b := by
  by_cases h : b < a
  · rw [if_pos h, Int.min_eq_right (by omega)]
  · rw [if_neg h, Int.min_eq_left (by omega)]
theorem pmax (a b : Int) : (if b > a then b else a) = max a b := by
  by_cases h : b > a
  · rw [if_pos h, Int.max_eq_right (by omega)]
  · rw [if_neg h, Int.max_eq_left (by omega)]

def sp_pair : Sp := fun vs H Q _ => ∃ a b : Int, vs = [.int a, .int b] ∧ ∀ t, H t = none → Q (.ref t) (upd H t (.tup [.int (pr a b).1, .int (pr a b).2]))
theorem ok__law_pair (T : Env K mg) : FnOk P w K mg base CX0 1 T.a__law_pair T.fd__law_pair ["_law_a", "_law_b"] sp_pair := by
  refine T.F__law_pair.ok sc__law_pair (fun vs H Q E h => ?_) (fun cdv A outer s H vs Q E hr h => ?_)
  · obtain ⟨a, b, rfl, _⟩ := h
    rfl
  · obtain ⟨a, b, rfl, q⟩ := h
    refine ⟨_, (pss_one (ps_ret (pe_tup (pa_cons (pe_callB (call_min2 rfl) (by rfl) T.m_min (by decide +kernel) (pa_cons (pv 0) (pa_cons (pv 1) pa_nil))) (pa_cons (pe_callB (call_max2 rfl) (by rfl) T.m_max (by decide +kernel) (pa_cons (pv 0) (pa_cons (pv 1) pa_nil))) pa_nil))))), ?_⟩
    refine ⟨_, rfl, _, rfl, _, _, rfl, _, rfl, _, rfl, _, _, rfl, small200 (by show 2 ≤ 200; decide), fun t ht => ?_⟩
    have := q t ht
    rw [pmin, pmax]
    exact this
def TrAt (H : Hp) (x : V) (e : Int × Int × Int) : Prop := ∃ t, x = V.ref t ∧ H t = some (.tup [.int e.1, .int e.2.1, .int e.2.2])
abbrev TrL (H : Hp) (xs : List V) (l : List (Int × Int × Int)) : Prop := All2 (TrAt H) xs l
theorem TrL.tups {H H' : Hp} {xs : List V} {l : List (Int × Int × Int)} (s : TupS H H') (h : TrL H xs l) : TrL H' xs l := All2.mono h fun _ _ ⟨t, e, ht⟩ => ⟨t, e, s _ _ ht⟩
abbrev earR (e : Int × Int × Int) : Int × Int := pr e.2.1 e.2.2
/-- the drawing, step by step: what it tells is one -/
inductive EarRun (rs : List Int) : List Int → Nat → List (Int × Int × Int) → Prop where
  | stop {L : List Int} {i : Nat} : L.length ≤ 3 → EarRun rs L i []
  | step {L : List Int} {i j : Nat} {v0 v p q : Int} {es : List (Int × Int × Int)} : 3 < L.length → rs[i]? = some v0 → j = (v0 % (L.length : Int)).toNat → L[j]? = some v → (if j = 0 then L.getLast? else L[j - 1]?) = some p → L[(j + 1) % L.length]? = some q →
      EarRun rs (L.take j ++ L.drop (j + 1)) (i + 1) es → EarRun rs L i ((v, p, q) :: es)
theorem EarRun.inv {rs L : List Int} {i : Nat} {es : List (Int × Int × Int)} (h : EarRun rs L i es) (hl : 3 < L.length) : ∃ (j : Nat) (v0 v p q : Int) (es2 : List (Int × Int × Int)), es = (v, p, q) :: es2 ∧ rs[i]? = some v0 ∧ j = (v0 % (L.length : Int)).toNat ∧ L[j]? = some v ∧
    (if j = 0 then L.getLast? else L[j - 1]?) = some p ∧ L[(j + 1) % L.length]? = some q ∧ EarRun rs (L.take j ++ L.drop (j + 1)) (i + 1) es2 := by
  cases h with
  | stop h => omega
  | step a b c d e f g => exact ⟨_, _, _, _, _, _, rfl, b, c, d, e, f, g⟩
theorem EarRun.one {rs : List Int} {es : List (Int × Int × Int)} : ∀ {L : List Int} {i : Nat} {es' : List (Int × Int × Int)}, EarRun rs L i es → EarRun rs L i es' → es = es' := by
  induction es with
  | nil =>
    intro L i es' h h'
    by_cases hl : 3 < L.length
    · obtain ⟨_, _, _, _, _, _, e, _⟩ := h.inv hl
      cases e
    · cases h' with
      | stop _ => rfl
      | step a => omega
  | cons x es ih =>
    intro L i es' h h'
    by_cases hl : 3 < L.length
    · obtain ⟨j, v0, v, p, q, es2, e, h1, h2, h3, h4, h5, h6⟩ := h.inv hl
      obtain ⟨j', v0', v', p', q', es2', e', k1, k2, k3, k4, k5, k6⟩ := h'.inv hl
      cases e
      subst e'
      obtain rfl : v0 = v0' := Option.some.inj (h1.symm.trans k1)
      obtain rfl : j = j' := h2.trans k2.symm
      obtain rfl : v = v' := Option.some.inj (h3.symm.trans k3)
      obtain rfl : p = p' := Option.some.inj (h4.symm.trans k4)
      obtain rfl : q = q' := Option.some.inj (h5.symm.trans k5)
      rw [ih h6 k6]
    · cases h with
      | step a => omega
def sp_ears (K : PySem.W.Frag) : Sp := fun vs H Q _ => ∃ (n : Int) (r : Addr) (rs : List Int), vs = [.int n, .ref r] ∧ 3 ≤ n ∧ n ≤ 12 ∧ SqL K H r (rs.map V.int) ∧ n ≤ rs.length + 3 ∧ rowOk rs ∧
  ∀ H' p xs es, Same H H' → H p = none → H' p = some (.lst xs) → TrL H' xs es → (es.length : Int) = n - 3 → IsCut n (es.map earR) → (∃ F, EarSeq (rng n) es F) → EarRun rs (rng n) 0 es → Q (.ref p) H'
theorem rng_perm_step {n : Int} {E : List (Int × Int)} {L : List Int} {r : Int × Int} {L' : List Int} (h : ∀ R, CutL L R → CutL (rng n) (E ++ R)) (s : ∀ R, CutL L' R → CutL L (r :: R)) : ∀ R, CutL L' R → CutL (rng n) ((E ++ [r]) ++ R) := fun R hR => by
  rw [List.append_assoc]
  exact h _ (s R hR)
theorem mem_but {L : List Int} (hL : L.Pairwise (· < ·)) {k : Nat} {v : Int} (hv : L[k]? = some v) : ∀ z, z ∈ L.take k ++ L.drop (k + 1) ↔ z ∈ L ∧ z ≠ v := by
  intro z
  obtain ⟨hk, ev⟩ := List.getElem?_eq_some_iff.mp hv
  have eL : L = L.take k ++ v :: L.drop (k + 1) := by
    rw [← ev, ← List.drop_eq_getElem_cons hk, List.take_append_drop]
  have hs := hL
  rw [eL] at hs
  obtain ⟨s1, s2, _⟩ := sorted_split hs
  have m : z ∈ L ↔ z ∈ L.take k ++ v :: L.drop (k + 1) := by rw [← eL]
  rw [m, mem_gap]
  constructor
  · intro h
    refine ⟨.inl h, fun e => ?_⟩
    subst e
    rcases List.mem_append.mp h with h | h
    · exact absurd (s1 _ h) (Int.lt_irrefl _)
    · exact absurd (s2 _ h) (Int.lt_irrefl _)
  · rintro ⟨h | h, e⟩
    · exact h
    · exact absurd h e
def earW (n : Int) (rs : List Int) (r p : Addr) (H : Hp) : Nat → L2.St → Hp → Prop := fun m σ H' => ∃ (l : Addr) (k : Option V) (xs : List V) (es : List (Int × Int × Int)) (L : List Int), σ = [some (.int n), some (.ref r), k, some (.ref l), some (.ref p)] ∧ Same H H' ∧ H' p = some (.lst xs) ∧ l ≠ p ∧ TrL H' xs es ∧ H' l = some (.lst (L.map V.int)) ∧ L.length = m ∧ 3 ≤ m ∧ ((es.length + m : Nat) : Int) = n ∧ L.Pairwise (· < ·) ∧ (∀ R, CutL L R → CutL (rng n) (es.map earR ++ R)) ∧ (∀ fs F, EarSeq L fs F → EarSeq (rng n) (es ++ fs) F) ∧ ∀ fs, EarRun rs L es.length fs → EarRun rs (rng n) 0 (es ++ fs)
theorem int_atN {rs : List Int} {k : Nat} (h : k < rs.length) : ∃ v : Int, rs[k]? = some v ∧ atI (rs.map V.int) (k : Int) = some (.int v) := by
  refine ⟨rs[k], List.getElem?_eq_getElem h, atI_nat ?_⟩
  rw [List.getElem?_map, List.getElem?_eq_getElem h]
  rfl
theorem ear_prev {L : List Int} {k : Nat} (hk : k < L.length) : ∃ p : Int, (if k = 0 then L.getLast? else L[k - 1]?) = some p ∧ atI (L.map V.int) ((k : Int) - 1) = some (.int p) := by
  by_cases h : k = 0
  · subst h
    have hne : L ≠ [] := fun e => by rw [e] at hk; cases hk
    refine ⟨L.getLast hne, by rw [if_pos rfl, List.getLast?_eq_some_getLast hne], ?_⟩
    have e : L.map V.int = L.dropLast.map V.int ++ [V.int (L.getLast hne)] := by
      rw [← List.map_singleton, ← List.map_append, List.dropLast_concat_getLast hne]
    rw [e]
    exact atI_last _ _
  · obtain ⟨v, e1, e2⟩ := int_atN (rs := L) (k := k - 1) (by omega)
    refine ⟨v, by rw [if_neg h]; exact e1, ?_⟩
    rw [show (k : Int) - 1 = ((k - 1 : Nat) : Int) by omega]
    exact e2
theorem ok__law_ears (T : Env K mg) : FnOk P w K mg base CX0 1 T.a__law_ears T.fd__law_ears ["_law_n", "_law_row"] (sp_ears K) := by
  refine T.F__law_ears.ok sc__law_ears (fun vs H Q E h => ?_) (fun cdv A outer s H vs Q E hr h => ?_)
  · obtain ⟨n, r, rs, rfl, _⟩ := h
    rfl
  · obtain ⟨n, r, rs, rfl, h3, h12, hS, hl, hro, q⟩ := h
    refine ⟨_, (pss_cons (ps_setLc (i := 3) (own := [("_law_k", 2)]) (by rfl) sc__law_ears.nd rfl rfl (sw_true rfl rfl rfl (by decide +kernel)) (pi_range1 (by rfl) T.m_range (pa_cons (pv 0) pa_nil)) (blkOk_by (own := [("_law_k", 2)]) (N := ["_law_n", "_law_row", "_law_k", "_law_left", "_law_ears_here"]) (sc := defScope s__law_ears) (by decide +kernel)) (fun _ _ _ _ _ => (pg_name (i := 2) sc__law_ears.nd rfl (.inl rfl))) (fun _ _ _ _ _ => pts_nil) (fun _ _ _ _ _ => (pv 2)))
 (pss_cons (ps_set (i := 4) sc__law_ears.nd rfl (.inl rfl) (pe_lst pa_nil))
 (pss_cons (ps_while PassesOwn.never (pt_cmpR op_gt (pe_callB (id := "len") call_len_seq (by rfl) T.m_len (by decide +kernel) (pa_cons (pv 3) pa_nil)) pe_int (nomark _))
 (C8.pss_cut (ps_set (i := 2) sc__law_ears.nd rfl (.inl rfl) (pe_op op_mod (pe_ix ix_list (pv 1) (pe_callB (id := "len") call_len_seq (by rfl) T.m_len (by decide +kernel) (pa_cons (pv 4) pa_nil)) (fun _ _ => rfl)) (pe_callB (id := "len") call_len_seq (by rfl) T.m_len (by decide +kernel) (pa_cons (pv 3) pa_nil))))
 (pss_cons (ps_expr (pe_bm PySem.F.plainAttrs_list PySem.F.slot_list_append PySem.F.type_list_append mt_append (pv 4) (pa_cons (pe_tup (pa_cons (pe_ix ix_list (pv 3) (pv 2) (fun _ _ => rfl)) (pa_cons (pe_ix ix_list (pv 3) (pe_op op_sub (pv 2) pe_int) (fun _ _ => rfl)) (pa_cons (pe_ix ix_list (pv 3) (pe_op op_mod (pe_op op_add (pv 2) pe_int) (pe_callB (id := "len") call_len_seq (by rfl) T.m_len (by decide +kernel) (pa_cons (pv 3) pa_nil))) (fun _ _ => rfl)) pa_nil)))) pa_nil)))
 (pss_one (ps_set (i := 3) sc__law_ears.nd rfl (.inl rfl) (pe_op op_cat (pe_slice sl_list (pv 3) po_none (po_some (pv 2))) (pe_slice sl_list (pv 3) (po_some (pe_op op_add (pv 2) pe_int)) po_none)))))))
 (pss_one (ps_ret (pv 4)))))), ?_⟩
    refine ⟨_, rfl, n, rfl, by omega, by omega, fun D hD => ?_⟩
    refine lc_range (lo := 0) (n := n.toNat) (fun j H2 => Same H H2 ∧ H2 D = some (.lst (((rng n).take j).map V.int))) ⟨same_new hD, upd_same⟩ ?_ ?_
    · rintro j H2 hj ⟨s2, hd2⟩
      refine ⟨rfl, yes_read ?_⟩
      refine ⟨_, rfl, _, hd2, small200' ?_, same_put s2 hD, ?_⟩
      · rw [List.length_map, List.length_take]; omega
      · rw [upd_same, rng_more n j hj, List.map_append, Int.zero_add]; rfl
    rintro H2 ⟨s2, hd2⟩
    rw [List.take_of_length_le (by rw [rng_len]; exact Nat.le_refl _)] at hd2
    refine ⟨Nat.zero_le _, fun p hp => ?_⟩
    have s3 : Same H2 _ := same_new (o := .lst []) hp
    have hDp : D ≠ p := ne_of_none hd2 hp
    have hpH : H p = none := by
      cases e : H p with
      | none => rfl
      | some o => rw [s2 _ _ e] at hp; cases hp
    refine ⟨earW n rs r p H, ⟨n.toNat, D, _, [], [], rng n, rfl, s2.trans s3, upd_same, hDp, .nil, s3 _ _ hd2, rng_len n, by omega, by simp; omega, rng_sorted n, fun R hR => hR, fun fs F h => h, fun fs h => h⟩, ?_⟩
    rintro m σ H' ⟨l, k, xs, es, L, rfl, s4, hpx, hlp, hE, hL, rfl, hm3, hcnt, hLs, hcut, hseq, hrun⟩
    have hLl : (L.map V.int).length = L.length := List.length_map _
    have hSL : SqL K H' l (L.map V.int) := .inl (.inl hL)
    refine ⟨_, rfl, _, _, rfl, .inl hSL, _, _, rfl, rfl, _, rfl, ite2 (fun hd => ?_) (fun hd => ?_)⟩
    · have h4 : 4 ≤ L.length := by
        have := of_decide_eq_true hd
        rw [hLl] at this
        omega
      refine ⟨fun σ' H2 => ∃ m', m' < L.length ∧ earW n rs r p H m' σ' H2, fun _ _ h => h, ?_⟩
      have hxl := hE.length
      have hSR : SqL K H' r (rs.map V.int) := s4.seq hS
      obtain ⟨v0, v0at, av0⟩ := int_atN (rs := rs) (k := es.length) (by omega)
      have mv0 := List.mem_of_getElem? v0at
      have b0 := hro v0 mv0
      refine ⟨fun σ' H2 => H2 = H' ∧ ∃ j : Nat, j < L.length ∧ j = (v0 % (L.length : Int)).toNat ∧ σ' = [some (.int n), some (.ref r), some (.int (j : Int)), some (.ref l), some (.ref p)], ?_, ?_⟩
      · refine ⟨_, rfl, _, rfl, _, _, rfl, .inl (.inl (.inl hpx)), r, _, _, V.int v0, rfl, rfl, hSR, (by rw [hxl]; exact av0), _, rfl, _, _, rfl, .inl hSL, _, _, rfl, rfl, (by show (0 : Int) < _; omega), ?_⟩
        rw [hLl]
        refine ⟨rfl, (v0 % (L.length : Int)).toNat, ?_, rfl, ?_⟩
        · have k0 := Int.emod_nonneg v0 (show (L.length : Int) ≠ 0 by omega)
          have k1 := Int.emod_lt_of_pos v0 (show (0 : Int) < (L.length : Int) by omega)
          omega
        · rw [Int.toNat_of_nonneg (Int.emod_nonneg v0 (show (L.length : Int) ≠ 0 by omega))]; rfl
      rintro _ H' ⟨rfl, j, hjL, ej, rfl⟩
      obtain ⟨v, ev, av⟩ := int_atN hjL
      obtain ⟨pv', ep, ap⟩ := ear_prev hjL
      obtain ⟨q', eq, aq⟩ := int_atN (rs := L) (k := (j + 1) % L.length) (Nat.mod_lt _ (by omega))
      have aq' : atI (L.map V.int) (((j : Int) + 1) % (L.length : Int)) = some (.int q') := by
        have e1 : ((j + 1 : Nat) : Int) = (j : Int) + 1 := by omega
        rw [← e1, ← Int.natCast_emod]
        exact aq
      have stp := fun R hR => ear_step (R := R) hLs h4 ev ep eq hR
      refine ⟨_, rfl, .inl ⟨rfl, _, .inl (.inl hpx)⟩, ?_⟩
      refine ⟨_, rfl, _, rfl, l, _, _, _, rfl, rfl, hSL, av, ?_⟩
      refine ⟨_, rfl, _, rfl, _, _, rfl, rfl, l, _, _, _, rfl, rfl, hSL, ap, ?_⟩
      refine ⟨_, rfl, _, rfl, _, _, rfl, rfl, _, rfl, _, _, rfl, .inl hSL, _, _, rfl, rfl, (by show (0 : Int) < _; rw [hLl]; omega), l, _, _, _, rfl, rfl, hSL, (by rw [hLl]; exact aq'), ?_⟩
      refine ⟨small200 (by show 3 ≤ 200; decide), fun t ht => ?_⟩
      have s5 : Same H' _ := same_new (o := .tup [.int v, .int pv', .int q']) ht
      have et : (upd H' t (.tup [.int v, .int pv', .int q'])) t = some (.tup [.int v, .int pv', .int q']) := upd_same
      generalize upd H' t (.tup [.int v, .int pv', .int q']) = H5 at *
      refine ⟨p, xs, _, rfl, rfl, s5 _ _ hpx, small200' (by omega), ?_⟩
      have hE5 : TrL (upd H5 p (.lst (xs ++ [.ref t]))) (xs ++ [.ref t]) (es ++ [(v, pv', q')]) := by
        have ts := TupS.put (o := .lst (xs ++ [.ref t])) (s5 _ _ hpx)
        exact (hE.tups ((TupS.of s5).trans ts)).app (.one ⟨t, rfl, ts _ _ et⟩)
      have hL5 : (upd H5 p (.lst (xs ++ [.ref t]))) l = some (.lst (L.map V.int)) := by
        rw [upd_ne hlp]; exact s5 _ _ hL
      have s6 : Same H (upd H5 p (.lst (xs ++ [.ref t]))) := fun b o e => by
        rw [upd_ne (ne_of_none e hpH)]
        exact s5 _ _ (s4 _ _ e)
      have hp6 : (upd H5 p (.lst (xs ++ [.ref t]))) p = some (.lst (xs ++ [.ref t])) := upd_same
      generalize upd H5 p (.lst (xs ++ [.ref t])) = H6 at *
      refine ⟨_, rfl, _, rfl, _, rfl, l, _, rfl, .inl (.inl hL5), fun c1 g1 => ?_⟩
      have u1 : Same H6 _ := same_new (o := .lst (cutV (L.map V.int) none (some (j : Int)))) g1
      have e1 : (upd H6 c1 (.lst (cutV (L.map V.int) none (some (j : Int))))) c1 = some (.lst ((L.map V.int).take j)) := by rw [upd_same, cut_take]
      generalize upd H6 c1 (.lst (cutV (L.map V.int) none (some (j : Int)))) = H7 at *
      refine ⟨_, rfl, _, rfl, _, _, rfl, rfl, _, rfl, l, _, rfl, .inl (.inl (u1 _ _ hL5)), fun c2 g2 => ?_⟩
      have u2 : Same H7 _ := same_new (o := .lst (cutV (L.map V.int) (some ((j : Int) + 1)) none)) g2
      have e2 : (upd H7 c2 (.lst (cutV (L.map V.int) (some ((j : Int) + 1)) none))) c2 = some (.lst ((L.map V.int).drop (j + 1))) := by
        rw [upd_same, show (j : Int) + 1 = ((j + 1 : Nat) : Int) by omega, cut_drop]
      generalize upd H7 c2 (.lst (cutV (L.map V.int) (some ((j : Int) + 1)) none)) = H8 at *
      have hlen : ((L.take j ++ L.drop (j + 1))).length = L.length - 1 := by
        rw [List.length_append, List.length_take, List.length_drop]; omega
      refine ⟨c1, c2, _, _, rfl, rfl, u2 _ _ e1, e2, small200 ?_, fun c3 g3 => ?_⟩
      · rw [← List.map_take, ← List.map_drop, ← List.length_append, ← List.map_append, List.length_map, hlen]
        omega
      have u3 : Same H8 _ := same_new (o := .lst ((L.map V.int).take j ++ (L.map V.int).drop (j + 1))) g3
      refine ⟨L.length - 1, by omega, c3, _, _, _, L.take j ++ L.drop (j + 1), rfl, ((s6.trans u1).trans u2).trans u3, u3 _ _ (u2 _ _ (u1 _ _ hp6)), (ne_of_none (u2 _ _ (u1 _ _ hp6)) g3).symm, hE5.tups (TupS.of ((u1.trans u2).trans u3)), ?_, hlen, by omega, ?_, ?_, ?_, ?_, ?_⟩
      · rw [upd_same, List.map_append, List.map_take, List.map_drop]
      · rw [List.length_append, List.length_singleton]; omega
      · exact hLs.sublist (by
          have h := List.Sublist.append (List.Sublist.refl (L.take j)) (List.drop_sublist_drop_left L (show j ≤ j + 1 by omega))
          rw [List.take_append_drop] at h
          exact h)
      · rw [List.map_append]
        exact rng_perm_step hcut stp
      · intro fs F h
        rw [List.append_assoc]
        refine hseq _ _ ?_
        obtain ⟨n1, n2⟩ := cn_prev hLs (by omega) ev ep
        obtain ⟨n3, n4⟩ := cn_next hLs (by omega) ev eq
        exact .cons (List.mem_of_getElem? ev) n2 n4 n1 n3 (mem_but hLs ev) h
      · intro fs h
        rw [List.append_assoc]
        refine hrun _ (.step (by omega) (v0at) ej ev ep eq ?_)
        rw [List.length_append, List.length_singleton] at h
        exact h
    · have hL3 : L.length = 3 := by
        have := nd hd
        rw [hLl] at this
        omega
      obtain ⟨a, b, c, rfl⟩ : ∃ a b c, L = [a, b, c] := by
        match L, hL3 with
        | [a, b, c], _ => exact ⟨a, b, c, rfl⟩
      have c1 := (List.pairwise_cons.mp hLs).1 b (by simp)
      have c2 := (List.pairwise_cons.mp (List.pairwise_cons.mp hLs).2).1 c (by simp)
      have c3 := hcut [] (cut3 c1 c2)
      rw [List.append_nil] at c3
      exact ⟨_, rfl, q H' p xs es s4 hpH hpx hE (by omega) (isCut_of h3 c3) ⟨[a, b, c], by have := hseq [] _ (.nil rfl hLs); rw [List.append_nil] at this; exact this⟩ (by have := hrun [] (.stop (by simp)); rw [List.append_nil] at this; exact this)⟩

def sp_many (K : PySem.W.Frag) : Sp := fun vs H Q _ => ∃ (p : Addr) (rs : List Int), vs = [.ref p] ∧ SqL K H p (rs.map V.int) ∧ 2 ≤ rs.length ∧ ∀ n : Int, 3 ≤ n → n ≤ 12 → Q (.int n) H
theorem ok__law_many (T : Env K mg) : FnOk P w K mg base CX0 1 T.a__law_many T.fd__law_many ["_law_row"] (sp_many K) := by
  refine T.F__law_many.ok sc__law_many (fun vs H Q E h => ?_) (fun cdv A outer s H vs Q E hr h => ?_)
  · obtain ⟨p, rs, rfl, _⟩ := h
    rfl
  · obtain ⟨p, rs, rfl, hS, hl, q⟩ := h
    refine ⟨_, (pss_cons (ps_if (pt_cmpR op_eq (pe_op op_mod (pe_ix ix_list (pv 0) pe_int (fun _ _ => rfl)) pe_int) pe_int (nomark _))
 (pss_one (ps_ret (pe_op op_add pe_int (pe_op op_mod (pe_ix ix_list (pv 0) pe_int (fun _ _ => rfl)) pe_int))))
 pss_nil)
 (pss_one (ps_ret (pe_op op_add pe_int (pe_op op_mod (pe_ix ix_list (pv 0) pe_int (fun _ _ => rfl)) pe_int))))), ?_⟩
    obtain ⟨r0, m0, a0⟩ := int_at (rs := rs) (k := 0) (by omega)
    obtain ⟨r1, m1, a1⟩ := int_at (rs := rs) (k := 1) (by omega)
    have h4 := Int.emod_nonneg r1 (show (4 : Int) ≠ 0 by decide)
    have h4' := Int.emod_lt_of_pos r1 (show (0 : Int) < 4 by decide)
    have h6 := Int.emod_nonneg r1 (show (6 : Int) ≠ 0 by decide)
    have h6' := Int.emod_lt_of_pos r1 (show (0 : Int) < 6 by decide)
    refine ⟨_, rfl, p, _, _, _, rfl, rfl, hS, a0, _, _, rfl, rfl, (by show (0 : Int) < _; decide), rfl, _, rfl, ite2 (fun _ => ?_) (fun _ => ?_)⟩
    · exact ⟨_, rfl, p, _, _, _, rfl, rfl, hS, a1, _, _, rfl, rfl, (by show (0 : Int) < _; decide), _, _, rfl, rfl, q _ (by omega) (by omega)⟩
    · exact ⟨_, rfl, p, _, _, _, rfl, rfl, hS, a1, _, _, rfl, rfl, (by show (0 : Int) < _; decide), _, _, rfl, rfl, q _ (by omega) (by omega)⟩

/-! ### the ropes of a drawn cutting, sides, ties -/
theorem sp_new {H H' : Hp} {q : Addr} {o : HO} {H2 : Hp} (s : Same H H2) (h : H2 q = none) : Same H (upd H2 q o) := s.trans (same_new h)
theorem none_back {H H' : Hp} {q : Addr} (s : Same H H') (h : H' q = none) : H q = none := by
  cases e : H q with
  | none => rfl
  | some o => rw [s _ _ e] at h; cases h
def sp_ropes (K : PySem.W.Frag) : Sp := fun vs H Q _ => ∃ (p : Addr) (xs : List V) (es : List (Int × Int × Int)), vs = [.ref p] ∧ H p = some (.lst xs) ∧ TrL H xs es ∧ es.length ≤ 100 ∧
  ∀ H' q ys, Same H H' → H q = none → H' q = some (.lst ys) → PrL K H' ys (sort2 (es.map earR)) → Q (.ref q) H'
theorem ok__law_ropes (T : Env K mg) : FnOk P w K mg base CX0 2 T.a__law_ropes T.fd__law_ropes ["_law_ears_here"] (sp_ropes K) := by
  refine T.F__law_ropes.ok sc__law_ropes (fun vs H Q E h => ?_) (fun cdv A outer s H vs Q E hr h => ?_)
  · obtain ⟨p, xs, es, rfl, _⟩ := h
    rfl
  · obtain ⟨p, xs, es, rfl, hp, hE, hl, q⟩ := h
    refine ⟨_, (pss_one (ps_ret (pe_callB cr_sort2 (by rfl) T.m_sorted (by decide +kernel) (pa_cons (pe_lc (own := [("_law_ear", 1)]) (by rfl) sc__law_ropes.nd (pi_list (pv 0)) (blkOk_by (own := [("_law_ear", 1)]) (N := ["_law_ears_here", "_law_ear"]) (sc := defScope s__law_ropes) (by decide +kernel)) (fun _ _ _ _ _ => (pg_name (i := 1) sc__law_ropes.nd rfl (.inl rfl))) (fun _ _ _ _ _ => pts_nil) (fun _ _ _ _ _ => (pe_call (ok__law_pair T) (hr.mono (by decide)) (by rfl) T.g__law_pair T.F__law_pair.kp T.b__law_pair .nil pass0 (pa_cons (pe_ix (r := rIxT K) ix_tup (pv 1) pe_int (fun _ _ => rfl)) (pa_cons (pe_ix (r := rIxT K) ix_tup (pv 1) pe_int (fun _ _ => rfl)) pa_nil))))) pa_nil)))), ?_⟩
    have hxl := hE.length
    refine ⟨_, rfl, p, rfl, ⟨_, .inl (.inl hp)⟩, fun D hD => ?_⟩
    refine lc_list (K := K) (a := p) (xs := xs) (fun i H' => ∃ zs, Same H H' ∧ H' D = some (.lst zs) ∧ PrL K H' zs ((es.map earR).take i)) ⟨[], same_new hD, upd_same, by rw [List.take_zero]; exact .nil⟩ ?_ ?_ ?_
    · rintro i H' _ ⟨zs, s2, _, _⟩
      exact .inl (.inl (s2 _ _ hp))
    · rintro i x H' hi ⟨zs, s2, hz, hZ⟩
      obtain ⟨e, he, t, rfl, ht⟩ := hE.at hi
      have hT : SqT K H' t [.int e.1, .int e.2.1, .int e.2.2] := .inl (.inl (s2 _ _ ht))
      refine ⟨rfl, yes_read ?_⟩
      refine ⟨_, rfl, t, _, _, _, rfl, rfl, hT, atI_nat (j := 1) rfl, _, rfl, t, _, _, _, rfl, rfl, hT, atI_nat (j := 2) rfl, e.2.1, e.2.2, rfl, fun u hu => ?_⟩
      have s3 : Same H' _ := same_new (o := .tup [.int (pr e.2.1 e.2.2).1, .int (pr e.2.1 e.2.2).2]) hu
      have hu2 : (upd H' u (.tup [.int (pr e.2.1 e.2.2).1, .int (pr e.2.1 e.2.2).2])) u = some (.tup [.int (pr e.2.1 e.2.2).1, .int (pr e.2.1 e.2.2).2]) := upd_same
      generalize upd H' u (.tup [.int (pr e.2.1 e.2.2).1, .int (pr e.2.1 e.2.2).2]) = H3 at *
      have hzl := hZ.length
      rw [List.length_take, List.length_map] at hzl
      refine ⟨zs, s3 _ _ hz, small200' (by omega), zs ++ [.ref u], ?_, upd_same, ?_⟩
      · intro b o eb
        rw [upd_ne (ne_of_none eb hD)]
        exact s3 _ _ (s2 _ _ eb)
      · have em : (es.map earR)[i]? = some (earR e) := by rw [List.getElem?_map, he]; rfl
        rw [take_more em]
        have ts := TupS.put (o := .lst (zs ++ [.ref u])) (s3 _ _ hz)
        exact (hZ.tups ((TupS.of s3).trans ts)).app (.one ⟨u, rfl, ts _ _ hu2⟩)
    · rintro H' ⟨zs, s2, hz, hZ⟩
      rw [List.take_of_length_le (by rw [List.length_map]; omega)] at hZ
      refine ⟨D, zs, _, rfl, .inl (.inl hz), hZ, fun ys u hY hu => ?_⟩
      have s3 : Same H' _ := same_new (o := .lst ys) hu
      exact q _ u ys (s2.trans s3) (none_back s2 hu) upd_same (hY.mono s3)
def sp_sides (K : PySem.W.Frag) : Sp := fun vs H Q _ => ∃ n : Int, vs = [.int n] ∧ 3 ≤ n ∧ n ≤ 12 ∧ ∀ H' q ys, Same H H' → H q = none → H' q = some (.lst ys) → PrL K H' ys (sidesL n) → Q (.ref q) H'
theorem ok__law_sides (T : Env K mg) : FnOk P w K mg base CX0 1 T.a__law_sides T.fd__law_sides ["_law_n"] (sp_sides K) := by
  refine T.F__law_sides.ok sc__law_sides (fun vs H Q E h => ?_) (fun cdv A outer s H vs Q E hr h => ?_)
  · obtain ⟨n, rfl, _⟩ := h
    rfl
  · obtain ⟨n, rfl, h3, h12, q⟩ := h
    refine ⟨_, (pss_one (ps_ret (pe_op op_cat (pe_lc (own := [("_law_k", 1)]) (by rfl) sc__law_sides.nd (pi_range1 (by rfl) T.m_range (pa_cons (pe_op op_sub (pv 0) pe_int) pa_nil)) (blkOk_by (own := [("_law_k", 1)]) (N := ["_law_n", "_law_k"]) (sc := defScope s__law_sides) (by decide +kernel)) (fun _ _ _ _ _ => (pg_name (i := 1) sc__law_sides.nd rfl (.inl rfl))) (fun _ _ _ _ _ => pts_nil) (fun _ _ _ _ _ => (pe_tup (pa_cons (pv 1) (pa_cons (pe_op op_add (pv 1) pe_int) pa_nil))))) (pe_lst (pa_cons (pe_tup (pa_cons pe_int (pa_cons (pe_op op_sub (pv 0) pe_int) pa_nil))) pa_nil))))), ?_⟩
    refine ⟨_, rfl, _, _, rfl, rfl, n - 1, rfl, by omega, by omega, fun D hD => ?_⟩
    refine lc_range (lo := 0) (n := (n - 1).toNat) (fun i H' => ∃ zs, Same H H' ∧ H' D = some (.lst zs) ∧ PrL K H' zs (((rng (n - 1)).map (fun k => (k, k + 1))).take i)) ⟨[], same_new hD, upd_same, by rw [List.take_zero]; exact .nil⟩ ?_ ?_
    · rintro i H' hi ⟨zs, s2, hz, hZ⟩
      refine ⟨rfl, yes_read ?_⟩
      refine ⟨_, rfl, _, rfl, _, _, rfl, rfl, small200 (by show 2 ≤ 200; decide), fun u hu => ?_⟩
      have s3 : Same H' _ := same_new (o := .tup [.int (0 + (i : Int)), .int (0 + (i : Int) + 1)]) hu
      have hu2 : (upd H' u (.tup [.int (0 + (i : Int)), .int (0 + (i : Int) + 1)])) u = some (.tup [.int (0 + (i : Int)), .int (0 + (i : Int) + 1)]) := upd_same
      generalize upd H' u (.tup [.int (0 + (i : Int)), .int (0 + (i : Int) + 1)]) = H3 at *
      have hzl := hZ.length
      rw [List.length_take, List.length_map, rng_len] at hzl
      refine ⟨zs, s3 _ _ hz, small200' (by omega), zs ++ [.ref u], ?_, upd_same, ?_⟩
      · intro b o eb
        rw [upd_ne (ne_of_none eb hD)]
        exact s3 _ _ (s2 _ _ eb)
      · have em : ((rng (n - 1)).map (fun k => (k, k + 1)))[i]? = some ((0 + (i : Int)), (0 + (i : Int) + 1)) := by
          unfold rng
          rw [List.getElem?_map, List.getElem?_map, List.getElem?_range hi, Int.zero_add]; rfl
        rw [take_more em]
        have ts := TupS.put (o := .lst (zs ++ [.ref u])) (s3 _ _ hz)
        exact (hZ.tups ((TupS.of s3).trans ts)).app (.one ⟨u, rfl, ts _ _ hu2⟩)
    · rintro H' ⟨zs, s2, hz, hZ⟩
      rw [List.take_of_length_le (by rw [List.length_map, rng_len]; exact Nat.le_refl _)] at hZ
      have hzl := hZ.length
      rw [List.length_map, rng_len] at hzl
      refine ⟨_, rfl, _, _, rfl, rfl, small200 (by show 2 ≤ 200; decide), fun u hu => ?_⟩
      have s3 : Same H' _ := same_new (o := .tup [.int 0, .int (n - 1)]) hu
      have hu2 : (upd H' u (.tup [.int 0, .int (n - 1)])) u = some (.tup [.int 0, .int (n - 1)]) := upd_same
      generalize upd H' u (.tup [.int 0, .int (n - 1)]) = H3 at *
      refine ⟨small200 (by show 1 ≤ 200; decide), fun v hv => ?_⟩
      have s4 : Same H3 _ := same_new (o := .lst [.ref u]) hv
      have hv2 : (upd H3 v (.lst [.ref u])) v = some (.lst [.ref u]) := upd_same
      generalize upd H3 v (.lst [.ref u]) = H4 at *
      refine ⟨D, v, zs, [.ref u], rfl, rfl, s4 _ _ (s3 _ _ hz), hv2, small200 (by show zs.length + 1 ≤ 200; omega), fun r hr2 => ?_⟩
      have s5 : Same H4 _ := same_new (o := .lst (zs ++ [.ref u])) hr2
      have s6 := (s3.trans s4).trans s5
      exact q _ r _ (s2.trans s6) (none_back ((s2.trans s3).trans s4) hr2) upd_same ((hZ.mono s6).app (.one ⟨u, rfl, s5 _ _ (s4 _ _ hu2)⟩))
theorem sidesL_len {n : Int} (h : 3 ≤ n) : (sidesL n).length = n.toNat := by
  unfold sidesL
  rw [List.length_append, List.length_map, rng_len, List.length_singleton]
  omega
def sp_ties (K : PySem.W.Frag) : Sp := fun vs H Q _ => ∃ (n : Int) (c : Addr) (xs : List V) (l : List (Int × Int)), vs = [.int n, .ref c] ∧ 3 ≤ n ∧ n ≤ 12 ∧ H c = some (.lst xs) ∧ PrL K H xs l ∧ l.length ≤ 100 ∧
  ∀ H' q ys, Same H H' → H q = none → H' q = some (.lst ys) → PrL K H' ys (sort2 (sidesL n ++ l)) → Q (.ref q) H'
theorem ok__law_ties (T : Env K mg) : FnOk P w K mg base CX0 2 T.a__law_ties T.fd__law_ties ["_law_n", "_law_cut"] (sp_ties K) := by
  refine T.F__law_ties.ok sc__law_ties (fun vs H Q E h => ?_) (fun cdv A outer s H vs Q E hr h => ?_)
  · obtain ⟨n, c, xs, l, rfl, _⟩ := h
    rfl
  · obtain ⟨n, c, xs, l, rfl, h3, h12, hc, hL, hl, q⟩ := h
    refine ⟨_, (pss_one (ps_ret (pe_callB cr_sort2 (by rfl) T.m_sorted (by decide +kernel) (pa_cons (pe_op op_cat (pe_call (ok__law_sides T) (hr.mono (by decide)) (by rfl) T.g__law_sides T.F__law_sides.kp T.b__law_sides .nil pass0 (pa_cons (pv 0) pa_nil)) (pv 1)) pa_nil)))), ?_⟩
    refine ⟨_, rfl, n, rfl, h3, h12, fun H1 d ys s1 hd hd1 hD => ?_⟩
    have hxl := hL.length
    have hyl := hD.length
    rw [sidesL_len h3] at hyl
    refine ⟨_, rfl, d, c, ys, xs, rfl, rfl, hd1, s1 _ _ hc, small200 (by omega), fun e he => ?_⟩
    have s2 : Same H1 _ := same_new (o := .lst (ys ++ xs)) he
    refine ⟨e, _, _, rfl, .inl (.inl upd_same), (hD.mono s2).app (hL.mono (s1.trans s2)), fun zs u hZ hu => ?_⟩
    have s3 := (s1.trans s2).trans (same_new (o := .lst zs) hu)
    exact q _ u zs s3 (none_back (s1.trans s2) hu) upd_same (hZ.mono (same_new hu))

theorem ok_sides (T : Env K mg) : FnOk P w K mg base CX0 1 T.a_sides T.fd_sides ["n"] (sp_sides K) := by
  refine T.F_sides.ok sc_sides (fun vs H Q E h => ?_) (fun cdv A outer s H vs Q E hr h => ?_)
  · obtain ⟨n, rfl, _⟩ := h
    rfl
  · obtain ⟨n, rfl, h3, h12, q⟩ := h
    refine ⟨_, (pss_one (ps_ret (pe_op op_cat (pe_lc (own := [("post", 1)]) (by rfl) sc_sides.nd (pi_range1 (by rfl) T.m_range (pa_cons (pe_op op_sub (pv 0) pe_int) pa_nil)) (blkOk_by (own := [("post", 1)]) (N := ["n", "post"]) (sc := defScope s_sides) (by decide +kernel)) (fun _ _ _ _ _ => (pg_name (i := 1) sc_sides.nd rfl (.inl rfl))) (fun _ _ _ _ _ => pts_nil) (fun _ _ _ _ _ => (pe_tup (pa_cons (pv 1) (pa_cons (pe_op op_add (pv 1) pe_int) pa_nil))))) (pe_lst (pa_cons (pe_tup (pa_cons pe_int (pa_cons (pe_op op_sub (pv 0) pe_int) pa_nil))) pa_nil))))), ?_⟩
    refine ⟨_, rfl, _, _, rfl, rfl, n - 1, rfl, by omega, by omega, fun D hD => ?_⟩
    refine lc_range (lo := 0) (n := (n - 1).toNat) (fun i H' => ∃ zs, Same H H' ∧ H' D = some (.lst zs) ∧ PrL K H' zs (((rng (n - 1)).map (fun k => (k, k + 1))).take i)) ⟨[], same_new hD, upd_same, by rw [List.take_zero]; exact .nil⟩ ?_ ?_
    · rintro i H' hi ⟨zs, s2, hz, hZ⟩
      refine ⟨rfl, yes_read ?_⟩
      refine ⟨_, rfl, _, rfl, _, _, rfl, rfl, small200 (by show 2 ≤ 200; decide), fun u hu => ?_⟩
      have s3 : Same H' _ := same_new (o := .tup [.int (0 + (i : Int)), .int (0 + (i : Int) + 1)]) hu
      have hu2 : (upd H' u (.tup [.int (0 + (i : Int)), .int (0 + (i : Int) + 1)])) u = some (.tup [.int (0 + (i : Int)), .int (0 + (i : Int) + 1)]) := upd_same
      generalize upd H' u (.tup [.int (0 + (i : Int)), .int (0 + (i : Int) + 1)]) = H3 at *
      have hzl := hZ.length
      rw [List.length_take, List.length_map, rng_len] at hzl
      refine ⟨zs, s3 _ _ hz, small200' (by omega), zs ++ [.ref u], ?_, upd_same, ?_⟩
      · intro b o eb
        rw [upd_ne (ne_of_none eb hD)]
        exact s3 _ _ (s2 _ _ eb)
      · have em : ((rng (n - 1)).map (fun k => (k, k + 1)))[i]? = some ((0 + (i : Int)), (0 + (i : Int) + 1)) := by
          unfold rng
          rw [List.getElem?_map, List.getElem?_map, List.getElem?_range hi, Int.zero_add]; rfl
        rw [take_more em]
        have ts := TupS.put (o := .lst (zs ++ [.ref u])) (s3 _ _ hz)
        exact (hZ.tups ((TupS.of s3).trans ts)).app (.one ⟨u, rfl, ts _ _ hu2⟩)
    · rintro H' ⟨zs, s2, hz, hZ⟩
      rw [List.take_of_length_le (by rw [List.length_map, rng_len]; exact Nat.le_refl _)] at hZ
      have hzl := hZ.length
      rw [List.length_map, rng_len] at hzl
      refine ⟨_, rfl, _, _, rfl, rfl, small200 (by show 2 ≤ 200; decide), fun u hu => ?_⟩
      have s3 : Same H' _ := same_new (o := .tup [.int 0, .int (n - 1)]) hu
      have hu2 : (upd H' u (.tup [.int 0, .int (n - 1)])) u = some (.tup [.int 0, .int (n - 1)]) := upd_same
      generalize upd H' u (.tup [.int 0, .int (n - 1)]) = H3 at *
      refine ⟨small200 (by show 1 ≤ 200; decide), fun v hv => ?_⟩
      have s4 : Same H3 _ := same_new (o := .lst [.ref u]) hv
      have hv2 : (upd H3 v (.lst [.ref u])) v = some (.lst [.ref u]) := upd_same
      generalize upd H3 v (.lst [.ref u]) = H4 at *
      refine ⟨D, v, zs, [.ref u], rfl, rfl, s4 _ _ (s3 _ _ hz), hv2, small200 (by show zs.length + 1 ≤ 200; omega), fun r hr2 => ?_⟩
      have s5 : Same H4 _ := same_new (o := .lst (zs ++ [.ref u])) hr2
      have s6 := (s3.trans s4).trans s5
      exact q _ r _ (s2.trans s6) (none_back ((s2.trans s3).trans s4) hr2) upd_same ((hZ.mono s6).app (.one ⟨u, rfl, s5 _ _ (s4 _ _ hu2)⟩))
theorem ok_ties (T : Env K mg) : FnOk P w K mg base CX0 2 T.a_ties T.fd_ties ["n", "cut"] (sp_ties K) := by
  refine T.F_ties.ok sc_ties (fun vs H Q E h => ?_) (fun cdv A outer s H vs Q E hr h => ?_)
  · obtain ⟨n, c, xs, l, rfl, _⟩ := h
    rfl
  · obtain ⟨n, c, xs, l, rfl, h3, h12, hc, hL, hl, q⟩ := h
    refine ⟨_, (pss_one (ps_ret (pe_callB cr_sort2 (by rfl) T.m_sorted (by decide +kernel) (pa_cons (pe_op op_cat (pe_call (ok_sides T) (hr.mono (by decide)) (by rfl) T.g_sides T.F_sides.kp T.b_sides .nil pass0 (pa_cons (pv 0) pa_nil)) (pv 1)) pa_nil)))), ?_⟩
    refine ⟨_, rfl, n, rfl, h3, h12, fun H1 d ys s1 hd hd1 hD => ?_⟩
    have hxl := hL.length
    have hyl := hD.length
    rw [sidesL_len h3] at hyl
    refine ⟨_, rfl, d, c, ys, xs, rfl, rfl, hd1, s1 _ _ hc, small200 (by omega), fun e he => ?_⟩
    have s2 : Same H1 _ := same_new (o := .lst (ys ++ xs)) he
    refine ⟨e, _, _, rfl, .inl (.inl upd_same), (hD.mono s2).app (hL.mono (s1.trans s2)), fun zs u hZ hu => ?_⟩
    have s3 := (s1.trans s2).trans (same_new (o := .lst zs) hu)
    exact q _ u zs s3 (none_back (s1.trans s2) hu) upd_same (hZ.mono (same_new hu))

theorem ok_pair_of (T : Env K mg) : FnOk P w K mg base CX0 1 T.a_pair_of T.fd_pair_of ["a", "b"] sp_pair := by
  refine T.F_pair_of.ok sc_pair_of (fun vs H Q E h => ?_) (fun cdv A outer s H vs Q E hr h => ?_)
  · obtain ⟨a, b, rfl, _⟩ := h
    rfl
  · obtain ⟨a, b, rfl, q⟩ := h
    refine ⟨_, (pss_one (ps_ret (pe_tup (pa_cons (pe_callB (call_min2 rfl) (by rfl) T.m_min (by decide +kernel) (pa_cons (pv 0) (pa_cons (pv 1) pa_nil))) (pa_cons (pe_callB (call_max2 rfl) (by rfl) T.m_max (by decide +kernel) (pa_cons (pv 0) (pa_cons (pv 1) pa_nil))) pa_nil))))), ?_⟩
    refine ⟨_, rfl, _, rfl, _, _, rfl, _, rfl, _, rfl, _, _, rfl, small200 (by show 2 ≤ 200; decide), fun t ht => ?_⟩
    have := q t ht
    rw [pmin, pmax]
    exact this
abbrev tiesS (n : Int) (l : List (Int × Int)) : List (Int × Int) := sort2 (sidesL n ++ l)
theorem tiesS_len {n : Int} {l : List (Int × Int)} (h3 : 3 ≤ n) (h12 : n ≤ 12) (hl : l.length ≤ 100) : (tiesS n l).length ≤ 200 := by
  unfold tiesS
  rw [sort2_len, List.length_append, sidesL_len h3]
  omega
def sp_beside (K : PySem.W.Frag) (C : Addr) : Sp := fun vs H Q E => ∃ (n : Int) (c : Addr) (xs : List V) (l : List (Int × Int)) (a b : Int), vs = [.int n, .ref c, .int a, .int b] ∧ 3 ≤ n ∧ n ≤ 12 ∧ H c = some (.lst xs) ∧ PrL K H xs l ∧ l.length ≤ 100 ∧
  (pr a b ∉ tiesS n l → ∀ H', Same H H' → E (.ref C) none H') ∧
  (pr a b ∈ tiesS n l → ∀ H' q, Same H H' → H q = none → H' q = some (.lst ((besL (tiesS n l) n a b).map V.int)) → Q (.ref q) H')
theorem filter_more {α : Type} {P : α → Bool} {l : List α} {x : α} : (l ++ [x]).filter P = l.filter P ++ (if P x then [x] else []) := by
  rw [List.filter_append]
  congr 1
  cases h : P x <;> simp [List.filter_cons, h]
def sp_lbeside (K : PySem.W.Frag) : Sp := fun vs H Q _ => ∃ (n : Int) (c : Addr) (xs : List V) (t : List (Int × Int)) (a b : Int), vs = [.int n, .ref c, .int a, .int b] ∧ 3 ≤ n ∧ n ≤ 12 ∧ H c = some (.lst xs) ∧ PrL K H xs t ∧ t.length ≤ 200 ∧
  ∀ H' q, Same H H' → H q = none → H' q = some (.lst ((besL t n a b).map V.int)) → Q (.ref q) H'
/-! ### lowest -/
def sp_lowest (C : Addr) : Sp := fun vs H Q E => ∃ t b : Int, vs = [.int t, .int b] ∧ b.natAbs.log2 < 9000 ∧ (b = 0 → E (.ref C) none H) ∧
  (b ≠ 0 → ∀ p, H p = none → Q (.ref p) (upd H p (.tup [.int (lowI t b).1, .int (lowI t b).2])))
theorem ok_lowest (T : Env K mg) : FnOk P w K mg base (L2.CX P w) 1 T.a_lowest T.fd_lowest ["top", "bottom"] (sp_lowest T.C_NoFraction) := by
  refine T.F_lowest.okX sc_lowest (fun vs H Q E h => ?_) (fun cdv A outer s H vs Q E hr h => ?_)
  · obtain ⟨t, b, rfl, _⟩ := h
    rfl
  · obtain ⟨t, b, rfl, hlog, k0, k1⟩ := h
    refine ⟨_, (pss_cons (ps_if (pt_cmpR op_eq (pv 1) pe_int (nomark _))
 (pss_one (ps_raise rfl (takes_of rfl rfl rfl rfl) (pmk_own PySem.F.excBase_ValueError T.x_NoFraction T.c_NoFraction T.k_NoFraction (raises_own T.bs_NoFraction T.ty_NoFraction) rfl)))
 pss_nil)
 (pss_cons (ps_set (i := 2) sc_lowest.nd rfl (.inl rfl) (pe_callBfun cr_gcd (by rfl) T.m_gcd (pa_cons (pv 0) (pa_cons (pv 1) pa_nil))))
 (C8.pss_cut (ps_if (pt_cmpR op_lt (pv 1) pe_int (nomark _))
 (pss_one (ps_set (i := 2) sc_lowest.nd rfl (.inl rfl) (pe_un un_neg (pv 2))))
 pss_nil)
 (pss_one (ps_ret (pe_tup (pa_cons (pe_op op_fdivX (pv 0) (pv 2)) (pa_cons (pe_op op_fdivX (pv 1) (pv 2)) pa_nil)))))))), ?_⟩
    refine ⟨_, rfl, rfl, _, rfl, ite2 (fun hd => ?_) (fun hd => ?_)⟩
    · exact k0 (V.int.inj (of_decide_eq_true hd))
    · have hb : b ≠ 0 := fun z => hd (by rw [z]; rfl)
      have q := k1 hb
      have hgp : 0 < Nat.gcd t.natAbs b.natAbs := Nat.gcd_pos_of_pos_right _ (by omega)
      have hgl := gcd_log (t := t) hb hlog
      refine ⟨_, rfl, _, rfl, _, _, rfl, ?_⟩
      generalize hG : Nat.gcd t.natAbs b.natAbs = g at *
      refine ⟨fun σ' H2 => H = H2 ∧ ((b < 0 ∧ σ' = [some (.int t), some (.int b), some (.int (-(g : Int)))]) ∨ (¬ b < 0 ∧ σ' = [some (.int t), some (.int b), some (.int (g : Int))])), ?_, ?_⟩
      · refine ⟨_, rfl, _, _, rfl, rfl, _, rfl, ite2 (fun hd => ?_) (fun hd => ?_)⟩
        · exact ⟨_, rfl, _, rfl, rfl, .inl ⟨of_decide_eq_true hd, rfl⟩⟩
        · exact ⟨rfl, .inr ⟨nd hd, rfl⟩⟩
      · rintro σ' H2 ⟨rfl, ⟨hn, rfl⟩ | ⟨hn, rfl⟩⟩
        · have hgn : (-(g : Int)).natAbs.log2 < 9000 := by rw [Int.natAbs_neg]; exact hgl
          refine ⟨_, rfl, _, rfl, _, _, rfl, rfl, ⟨by omega, hgn⟩, _, rfl, _, rfl, _, _, rfl, rfl, ⟨by omega, hgn⟩, (by show 2 ≤ sizeLine; decide), fun p hp => ?_⟩
          have := q p hp
          unfold lowI at this
          rw [if_pos hn, hG] at this
          show Q (.ref p) (upd H p (.tup [.int (t.fdiv (-(g : Int))), .int (b.fdiv (-(g : Int)))]))
          rw [fdiv_lowN (by omega), fdiv_lowN (by omega)]
          exact this
        · refine ⟨_, rfl, _, rfl, _, _, rfl, rfl, ⟨by omega, hgl⟩, _, rfl, _, rfl, _, _, rfl, rfl, ⟨by omega, hgl⟩, (by show 2 ≤ sizeLine; decide), fun p hp => ?_⟩
          have := q p hp
          unfold lowI at this
          rw [if_neg hn, hG] at this
          show Q (.ref p) (upd H p (.tup [.int (t.fdiv (g : Int)), .int (b.fdiv (g : Int))]))
          rw [fdiv_lowP (by omega), fdiv_lowP (by omega)]
          exact this

/-! ### parts: plus, less, times, over, smaller -/
theorem lt_mul {i j : Int} {a b n : Nat} (ha : i.natAbs < 2 ^ a) (hb : j.natAbs < 2 ^ b) (h : a + b ≤ n) : (i * j).natAbs < 2 ^ n :=
  Nat.lt_of_lt_of_le (wide_lt ha hb) (Nat.pow_le_pow_right (by decide) h)
theorem lt_add {i j : Int} {a n : Nat} (ha : i.natAbs < 2 ^ a) (hb : j.natAbs < 2 ^ a) (h : a + 1 ≤ n) : (i + j).natAbs < 2 ^ n := by
  have h1 : (i + j).natAbs < 2 ^ (a + 1) := by
    have := Int.natAbs_add_le i j
    rw [Nat.pow_succ]
    omega
  exact Nat.lt_of_lt_of_le h1 (Nat.pow_le_pow_right (by decide) h)
theorem lt_sub {i j : Int} {a n : Nat} (ha : i.natAbs < 2 ^ a) (hb : j.natAbs < 2 ^ a) (h : a + 1 ≤ n) : (i - j).natAbs < 2 ^ n := by
  rw [Int.sub_eq_add_neg]
  exact lt_add ha (by rw [Int.natAbs_neg]; exact hb) h
theorem mulW {i j : Int} {a b : Nat} (ha : i.natAbs < 2 ^ a) (hb : j.natAbs < 2 ^ b) (h0 : 0 < a) (h1 : 0 < b) (h : a + b ≤ 1000000) : IntMulOk i j := (wide_mul ha hb h0 h1 h).ok

/-! ### fractions above nought, told by their values -/
structure Frac (b : Nat) (x : Int × Int) : Prop where
  top : 0 < x.1
  low : Low x.1 x.2
  bt : x.1.natAbs < 2 ^ b
  bb : x.2.natAbs < 2 ^ b
theorem Frac.more {a b : Nat} {x : Int × Int} (h : Frac a x) (l : a ≤ b) : Frac b x :=
  ⟨h.top, h.low, Nat.lt_of_lt_of_le h.bt (Nat.pow_le_pow_right (by decide) l), Nat.lt_of_lt_of_le h.bb (Nat.pow_le_pow_right (by decide) l)⟩
theorem lowV {t b : Int} {k : Nat} (ht : 0 < t) (hb : 0 < b) (h1 : t.natAbs < 2 ^ k) (h2 : b.natAbs < 2 ^ k) : Frac k (lowI t b) := by
  obtain ⟨L, e, e1, e2⟩ := lowI_ok (t := t) (b := b) (by omega)
  refine ⟨?_, L, by omega, by omega⟩
  have h3 : 0 < (lowI t b).1 * b := by rw [e]; exact Int.mul_pos L.pos ht
  exact Int.pos_of_mul_pos_left h3 hb
def mulV (x y : Int × Int) : Int × Int := lowI (x.1 * y.1) (x.2 * y.2)
def divV (x y : Int × Int) : Int × Int := lowI (x.1 * y.2) (x.2 * y.1)
def addV (x y : Int × Int) : Int × Int := lowI (x.1 * y.2 + y.1 * x.2) (x.2 * y.2)
theorem mulV_frac {a b : Nat} {x y : Int × Int} (h : Frac a x) (k : Frac b y) : Frac (a + b) (mulV x y) :=
  lowV (Int.mul_pos h.top k.top) (Int.mul_pos h.low.pos k.low.pos) (lt_mul h.bt k.bt (Nat.le_refl _)) (lt_mul h.bb k.bb (Nat.le_refl _))
theorem divV_frac {a b : Nat} {x y : Int × Int} (h : Frac a x) (k : Frac b y) : Frac (a + b) (divV x y) :=
  lowV (Int.mul_pos h.top k.low.pos) (Int.mul_pos h.low.pos k.top) (lt_mul h.bt k.bb (Nat.le_refl _)) (lt_mul h.bb k.bt (Nat.le_refl _))
theorem addV_frac {a b : Nat} {x y : Int × Int} (h : Frac a x) (k : Frac b y) : Frac (a + b + 1) (addV x y) := by
  have h1 := Int.mul_pos h.top k.low.pos
  have h2 := Int.mul_pos k.top h.low.pos
  refine lowV (by omega) (Int.mul_pos h.low.pos k.low.pos) (lt_add (a := a + b) (lt_mul h.bt k.bb (Nat.le_refl _)) ?_ (Nat.le_refl _)) (lt_mul h.bb k.bb (by omega))
  rw [Int.mul_comm]
  exact lt_mul h.bb k.bt (Nat.le_refl _)
theorem mulV_comm (x y : Int × Int) : mulV x y = mulV y x := by
  unfold mulV
  rw [Int.mul_comm x.1, Int.mul_comm x.2]
theorem addV_comm (x y : Int × Int) : addV x y = addV y x := by
  unfold addV
  rw [Int.add_comm, Int.mul_comm x.2]
theorem Frac.log {b : Nat} {x : Int × Int} (h : Frac b x) (l : b ≤ 4000) : x.2.natAbs.log2 < 9000 :=
  log_small (b := 4000) (by decide) (Nat.lt_of_lt_of_le h.bb (Nat.pow_le_pow_right (by decide) l)) (by decide)
/-- two fractions are handed in; F tells what comes of them -/
def sp_bin (K : PySem.W.Frag) (F : Int × Int → Int × Int → Int × Int) : Sp := fun vs H Q _ => ∃ (x y : V) (p q : Int × Int), vs = [x, y] ∧ PrAt K H x p ∧ PrAt K H y q ∧ Frac 4000 p ∧ Frac 4000 q ∧
  ∀ H' v, Same H H' → PrAt K H' v (F p q) → Q v H'
theorem bin_out {H : Hp} {Q : VK} {z : Int × Int} (k : ∀ H' v, Same H H' → PrAt K H' v z → Q v H') : ∀ r, H r = none → Q (.ref r) (upd H r (.tup [.int z.1, .int z.2])) :=
  fun r hr => k _ _ (same_new hr) ⟨r, rfl, upd_same⟩
/-! ### fractions with a bound of its own for top and bottom -/
structure F2 (t b : Nat) (x : Int × Int) : Prop where
  top : 0 < x.1
  low : Low x.1 x.2
  bt : x.1 < 2 ^ t
  bb : x.2 < 2 ^ b
theorem ipow_le {a b : Nat} (h : a ≤ b) : (2 : Int) ^ a ≤ 2 ^ b := by
  have := Nat.pow_le_pow_right (n := 2) (by decide) h
  exact_mod_cast this
theorem F2.more {t b t' b' : Nat} {x : Int × Int} (h : F2 t b x) (l1 : t ≤ t') (l2 : b ≤ b') : F2 t' b' x := by
  have p1 : (2 : Int) ^ t ≤ 2 ^ t' := ipow_le l1
  have p2 : (2 : Int) ^ b ≤ 2 ^ b' := ipow_le l2
  exact ⟨h.top, h.low, Int.lt_of_lt_of_le h.bt p1, Int.lt_of_lt_of_le h.bb p2⟩
theorem natAbs_lt_pow {x : Int} {k : Nat} (h : 0 < x) : x.natAbs < 2 ^ k ↔ x < 2 ^ k := by
  have e : ((2 ^ k : Nat) : Int) = (2 : Int) ^ k := by rw [Int.natCast_pow]; rfl
  omega
theorem F2.frac {t b k : Nat} {x : Int × Int} (h : F2 t b x) (l1 : t ≤ k) (l2 : b ≤ k) : Frac k x :=
  have g := h.more l1 l2
  ⟨g.top, g.low, (natAbs_lt_pow g.top).mpr g.bt, (natAbs_lt_pow g.low.pos).mpr g.bb⟩
theorem Frac.f2 {k : Nat} {x : Int × Int} (h : Frac k x) : F2 k k x := ⟨h.top, h.low, (natAbs_lt_pow h.top).mp h.bt, (natAbs_lt_pow h.low.pos).mp h.bb⟩
theorem pow2_mul {a b : Int} {s t : Nat} (ha : 0 < a) (hb : 0 < b) (h1 : a < 2 ^ s) (h2 : b < 2 ^ t) : a * b < 2 ^ (s + t) := by
  rw [Int.pow_add]
  exact Int.lt_of_lt_of_le (Int.mul_lt_mul_of_pos_right h1 hb) (Int.mul_le_mul_of_nonneg_left (Int.le_of_lt h2) (Int.le_of_lt (Int.pow_pos (by decide))))
theorem lowI_f2 {t b : Int} {s k : Nat} (ht : 0 < t) (hb : 0 < b) (h1 : t < 2 ^ s) (h2 : b < 2 ^ k) : F2 s k (lowI t b) := by
  obtain ⟨L, e, l1, l2⟩ := lowI_pos (t := t) hb
  have hp := L.pos
  have h3 : 0 < (lowI t b).1 := by
    have h4 : 0 < (lowI t b).1 * b := by rw [e]; exact Int.mul_pos hp ht
    rw [Int.mul_comm] at h4
    exact Int.pos_of_mul_pos_right h4 hb
  refine ⟨h3, L, ?_, by omega⟩
  have : (lowI t b).1 ≤ t := by omega
  omega
theorem F2.mul {s t s' t' : Nat} {x y : Int × Int} (h : F2 s t x) (k : F2 s' t' y) : F2 (s + s') (t + t') (mulV x y) :=
  lowI_f2 (Int.mul_pos h.top k.top) (Int.mul_pos h.low.pos k.low.pos) (pow2_mul h.top k.top h.bt k.bt) (pow2_mul h.low.pos k.low.pos h.bb k.bb)
theorem F2.div {s t s' t' : Nat} {x y : Int × Int} (h : F2 s t x) (k : F2 s' t' y) : F2 (s + t') (t + s') (divV x y) :=
  lowI_f2 (Int.mul_pos h.top k.low.pos) (Int.mul_pos h.low.pos k.top) (pow2_mul h.top k.low.pos h.bt k.bb) (pow2_mul h.low.pos k.top h.bb k.bt)
theorem F2.add {s t s' t' : Nat} {x y : Int × Int} (h : F2 s t x) (k : F2 s' t' y) : F2 (max (s + t') (s' + t) + 1) (t + t') (addV x y) := by
  have h1 := Int.mul_pos h.top k.low.pos
  have h2 := Int.mul_pos k.top h.low.pos
  have p1 := pow2_mul h.top k.low.pos h.bt k.bb
  have p2 := pow2_mul k.top h.low.pos k.bt h.bb
  have q1 : (2 : Int) ^ (s + t') ≤ 2 ^ (max (s + t') (s' + t)) := ipow_le (Nat.le_max_left _ _)
  have q2 : (2 : Int) ^ (s' + t) ≤ 2 ^ (max (s + t') (s' + t)) := ipow_le (Nat.le_max_right _ _)
  refine lowI_f2 (by omega) (Int.mul_pos h.low.pos k.low.pos) ?_ (pow2_mul h.low.pos k.low.pos h.bb k.bb)
  rw [Int.pow_succ]
  omega
def sp_size (K : PySem.W.Frag) : Sp := fun vs H Q _ => ∃ n : Int, vs = [.int n] ∧ ∀ H' v x, Same H H' → PrAt K H' v x → F2 10 7 x → Q v H'
theorem ok__law_size (T : Env K mg) : FnOk P w K mg base CX0 2 T.a__law_size T.fd__law_size ["_law_one"] (sp_size K) := by
  refine T.F__law_size.ok sc__law_size (fun vs H Q E h => ?_) (fun cdv A outer s H vs Q E hr h => ?_)
  · obtain ⟨n, rfl, _⟩ := h
    rfl
  · obtain ⟨n, rfl, k⟩ := h
    refine ⟨_, (pss_cons (ps_if (pt_cmpR op_eq (pe_op op_mod (pv 0) pe_int) pe_int (nomark _))
 (pss_one (ps_ret (pe_call (ok__law_low T) (hr.mono (by decide)) (by rfl) T.g__law_low T.F__law_low.kp T.b__law_low .nil pass0 (pa_cons (pe_op op_add pe_int (pe_op op_mod (pe_op op_fdiv (pv 0) pe_int) pe_int)) (pa_cons (pe_op op_add pe_int (pe_op op_mod (pe_op op_fdiv (pv 0) pe_int) pe_int)) pa_nil)))))
 pss_nil)
 (pss_one (ps_ret (pe_call (ok__law_low T) (hr.mono (by decide)) (by rfl) T.g__law_low T.F__law_low.kp T.b__law_low .nil pass0 (pa_cons (pe_op op_add pe_int (pe_op op_mod (pv 0) pe_int)) (pa_cons (pe_op op_add pe_int (pe_op op_mod (pe_op op_fdiv (pv 0) pe_int) pe_int)) pa_nil)))))), ?_⟩
    have out : ∀ t b : Int, 0 < t → 0 < b → t < 1000 → b < 100 → b ≠ 0 ∧ b.natAbs.log2 < 9000 ∧ ∀ r, H r = none → Q (.ref r) (upd H r (.tup [.int (lowI t b).1, .int (lowI t b).2])) := fun t b h1 h2 h3 h4 =>
      ⟨by omega, log_small (b := 10) (by decide) (by omega) (by decide), fun r hr => k _ _ _ (same_new hr) ⟨r, rfl, upd_same⟩ (lowI_f2 h1 h2 (by omega) (by omega))⟩
    have m := fun (z : Int) (d : Int) (hd : 0 < d) => And.intro (Int.emod_nonneg z (show d ≠ 0 by omega)) (Int.emod_lt_of_pos z hd)
    have m1 := m (n / 11) 997 (by decide)
    have m2 := m (n / 7) 89 (by decide)
    have m3 := m n 12 (by decide)
    have m4 := m (n / 12) 7 (by decide)
    refine ⟨_, rfl, _, _, rfl, rfl, (by show (0 : Int) < _; decide), rfl, _, rfl, ite2 (fun _ => ?_) (fun _ => ?_)⟩
    · refine ⟨_, rfl, _, _, rfl, rfl, ⟨by decide, by decide⟩, _, _, rfl, rfl, (by show (0 : Int) < _; decide), _, _, rfl, rfl, ?_⟩
      refine ⟨_, rfl, _, _, rfl, rfl, ⟨by decide, by decide⟩, _, _, rfl, rfl, (by show (0 : Int) < _; decide), _, _, rfl, rfl, ?_⟩
      exact ⟨_, _, rfl, out _ _ (by omega) (by omega) (by omega) (by omega)⟩
    · refine ⟨_, rfl, _, _, rfl, rfl, (by show (0 : Int) < _; decide), _, _, rfl, rfl, ?_⟩
      refine ⟨_, rfl, _, _, rfl, rfl, ⟨by decide, by decide⟩, _, _, rfl, rfl, (by show (0 : Int) < _; decide), _, _, rfl, rfl, ?_⟩
      exact ⟨_, _, rfl, out _ _ (by omega) (by omega) (by omega) (by omega)⟩

/-! ### turning -/
def turnL (n : Int) (l : List (Int × Int)) (p : Int × Int) : List (Int × Int) := match besL (tiesS n l) n p.1 p.2 with
  | [x, y] => sort2 ((l.filter fun q => decide (q ≠ p)) ++ [(x, y)])
  | _ => []
/-- what a turning makes -/
structure Turns (n : Int) (l : List (Int × Int)) (p : Int × Int) (x y : Int) : Prop where
  bes : besL (tiesS n l) n p.1 p.2 = [x, y]
  x0 : 0 ≤ x
  xy : x < y
  yn : y < n
  new : (x, y) ∉ l
  crs : (x < p.1 ∧ p.1 < y ∧ y < p.2) ∨ (p.1 < x ∧ x < p.2 ∧ p.2 < y)
  isC : IsCut n (turnL n l p)
  mem : ∀ q, q ∈ turnL n l p ↔ (q ∈ l ∧ q ≠ p) ∨ q = (x, y)
  srt : (turnL n l p).Pairwise le2
  len : (turnL n l p).length = l.length
theorem filter_ne_len {l : List (Int × Int)} {p : Int × Int} (hn : l.Nodup) (hp : p ∈ l) : (l.filter fun q => decide (q ≠ p)).length + 1 = l.length := by
  induction l with
  | nil => cases hp
  | cons a l ih =>
    rw [List.nodup_cons] at hn
    rw [List.filter_cons]
    by_cases e : a = p
    · subst e
      rw [if_neg (by simp)]
      have : l.filter (fun q => decide (q ≠ a)) = l := List.filter_eq_self.mpr fun q hq => decide_eq_true fun e => hn.1 (e ▸ hq)
      rw [this, List.length_cons]
    · rw [if_pos (by simpa using e), List.length_cons, List.length_cons, ih hn.2 ((List.mem_cons.mp hp).resolve_left (Ne.symm e))]
theorem turns {n : Int} {l : List (Int × Int)} {p : Int × Int} (hc : IsCut n l) (hp : p ∈ l) : ∃ x y, Turns n l p x y := by
  obtain ⟨a, b⟩ := p
  obtain ⟨x, y, h1, h2, h3, h4, h5, h6, h7⟩ := turn_cut hc (t := tiesS n l) (fun p => sort2_mem) hp
  have e : turnL n l (a, b) = sort2 ((l.filter fun q => decide (q ≠ (a, b))) ++ [(x, y)]) := by
    unfold turnL
    rw [h1]
  have hm : ∀ q, q ∈ turnL n l (a, b) ↔ (q ∈ l ∧ q ≠ (a, b)) ∨ q = (x, y) := fun q => by
    rw [e, sort2_mem, List.mem_append, List.mem_filter, decide_eq_true_eq, List.mem_singleton]
  have hnd : ((l.filter fun q => decide (q ≠ (a, b))) ++ [(x, y)]).Nodup := by
    rw [List.nodup_append]
    refine ⟨hc.nd.filter _, by simp, fun u hu v hv => ?_⟩
    rw [List.mem_singleton.mp hv]
    intro e
    rw [e] at hu
    exact h5 (List.mem_filter.mp hu).1
  refine ⟨x, y, h1, h2, h3, h4, h5, h6, h7 _ ?_ hm, hm, ?_, ?_⟩
  · rw [e]; exact sort2_nodup hnd
  · rw [e]; exact sort2_sorted _
  · rw [e, sort2_len, List.length_append, List.length_singleton]
    exact filter_ne_len hc.nd hp
def sp_newrope (K : PySem.W.Frag) (C : Addr) : Sp := fun vs H Q E => ∃ (n : Int) (c : Addr) (xs : List V) (l : List (Int × Int)) (a b : Int), vs = [.int n, .ref c, .int a, .int b] ∧ 3 ≤ n ∧ n ≤ 12 ∧ H c = some (.lst xs) ∧ PrL K H xs l ∧ l.length ≤ 100 ∧ IsCut n l ∧
  (pr a b ∉ l → ∀ H', Same H H' → E (.ref C) none H') ∧
  (pr a b ∈ l → ∀ x y, Turns n l (pr a b) x y → ∀ H' q, Same H H' → H q = none → H' q = some (.tup [.int x, .int y]) → Q (.ref q) H')
theorem rope_tie {n : Int} {l : List (Int × Int)} {p : Int × Int} (h : p ∈ l) : p ∈ tiesS n l := sort2_mem.mpr (List.mem_append.mpr (.inr h))
def sp_turned (K : PySem.W.Frag) (C : Addr) : Sp := fun vs H Q E => ∃ (n : Int) (c : Addr) (xs : List V) (l : List (Int × Int)) (a b : Int), vs = [.int n, .ref c, .int a, .int b] ∧ 3 ≤ n ∧ n ≤ 12 ∧ H c = some (.lst xs) ∧ PrL K H xs l ∧ l.length ≤ 100 ∧ IsCut n l ∧
  (pr a b ∉ l → ∀ H', Same H H' → E (.ref C) none H') ∧
  (pr a b ∈ l → ∀ H' q ys, Same H H' → H q = none → H' q = some (.lst ys) → PrL K H' ys (turnL n l (pr a b)) → Q (.ref q) H')
theorem PrAt.tups {H H' : Hp} {x : V} {p : Int × Int} (s : TupS H H') (h : PrAt K H x p) : PrAt K H' x p := by
  obtain ⟨t, e, ht⟩ := h
  exact ⟨t, e, s _ _ ht⟩

/-! ### two pairs cross -/
def crossI (p q : Int × Int) : Bool := if q.1 = p.1 ∨ q.1 = p.2 ∨ q.2 = p.1 ∨ q.2 = p.2 then false else
  decide ((decide (min p.1 p.2 < q.1 ∧ q.1 < max p.1 p.2)) ≠ (decide (min p.1 p.2 < q.2 ∧ q.2 < max p.1 p.2)))
theorem dec_ne (A B : Prop) [Decidable A] [Decidable B] : (decide A ≠ decide B) ↔ ¬ (A ↔ B) := by
  by_cases h1 : A <;> by_cases h2 : B <;> simp [h1, h2]
theorem crossI_symm {p q : Int × Int} (h1 : p.1 ≠ p.2) (h2 : q.1 ≠ q.2) : crossI p q = crossI q p := by
  obtain ⟨a, b⟩ := p
  obtain ⟨c, d⟩ := q
  unfold crossI
  dsimp only at *
  by_cases e : c = a ∨ c = b ∨ d = a ∨ d = b
  · rw [if_pos e, if_pos (by omega)]
  · rw [if_neg e, if_neg (by omega), decide_eq_decide, dec_ne, dec_ne]
    omega
def sp_cross (K : PySem.W.Frag) : Sp := fun vs H Q _ => ∃ (x y : V) (p q : Int × Int), vs = [x, y] ∧ PrAt K H x p ∧ PrAt K H y q ∧ Q (.bl (crossI p q)) H
def sp_crosses (K : PySem.W.Frag) : Sp := fun vs H Q _ => ∃ (x y : V) (p q : Int × Int), vs = [x, y] ∧ PrAt K H x p ∧ PrAt K H y q ∧ Q (.bl (crossI q p)) H
theorem inV2 (i a b : Int) : inV (V.int i) [V.int a, V.int b] = decide (i = a ∨ i = b) := by
  show ((a == i) || ((b == i) || false)) = _
  have e : ∀ x y : Int, (x == y) = decide (y = x) := fun x y => by
    by_cases h : y = x
    · rw [decide_eq_true h, h]; exact beq_self_eq_true x
    · rw [decide_eq_false h]; exact beq_eq_false_iff_ne.mpr fun z => h z.symm
  rw [Bool.or_false, e, e, ← Bool.decide_or]
/-- low < i < high, i asked once -/
def rChainI (lo hi i : Int) : Bool := decide (lo < i ∧ i < hi)

theorem cross_fin {lo hi i j : Int} : (!decide (V.bl (decide (lo < i ∧ i < hi)) = V.bl (decide (lo < j ∧ j < hi)))) = decide ((decide (lo < i ∧ i < hi)) ≠ (decide (lo < j ∧ j < hi))) := by
  rw [← decide_not, decide_eq_decide]
  exact ⟨fun h e => h (congrArg V.bl e), fun h e => h (V.bl.inj e)⟩
theorem crossI_t {p q : Int × Int} (h : q.1 = p.1 ∨ q.1 = p.2 ∨ q.2 = p.1 ∨ q.2 = p.2) : crossI p q = false := by unfold crossI; rw [if_pos h]
theorem crossI_f {p q : Int × Int} (h : ¬ (q.1 = p.1 ∨ q.1 = p.2 ∨ q.2 = p.1 ∨ q.2 = p.2)) : crossI p q = (!decide (V.bl (decide (min p.1 p.2 < q.1 ∧ q.1 < max p.1 p.2)) = V.bl (decide (min p.1 p.2 < q.2 ∧ q.2 < max p.1 p.2)))) := by
  unfold crossI
  rw [cross_fin, if_neg h]

theorem ok_crosses (T : Env K mg) : FnOk P w K mg base CX0 1 T.a_crosses T.fd_crosses ["one", "other"] (sp_crosses K) := by
  refine T.F_crosses.ok sc_crosses (fun vs H Q E h => ?_) (fun cdv A outer s H vs Q E hr h => ?_)
  · obtain ⟨x, y, p, q, rfl, _⟩ := h
    rfl
  · obtain ⟨x, y, p, q, rfl, hp, hq, k⟩ := h
    refine ⟨_, (pss_cons (ps_asg (pv 0) (pg_tup rfl (pgs_cons (pg_name (i := 2) sc_crosses.nd rfl (.inl rfl)) (pgs_cons (pg_name (i := 3) sc_crosses.nd rfl (.inl rfl)) pgs_nil))))
 (pss_cons (ps_if (PW.pt (pw_or (pt_cmpR op_in_seq (pv 2) (pv 1) (by rfl)) (pw_or1 (pt_cmpR op_in_seq (pv 3) (pv 1) (by rfl)))))
 (pss_one (ps_ret pe_bl))
 pss_nil)
 (pss_cons (ps_par (i := 4) (j := 5) (by rfl) sc_crosses.nd rfl rfl (by decide) rfl rfl (pa_cons (pe_callB (cr_min2T rfl (by exact hr.units)) (by rfl) T.m_min (by decide +kernel) (pa_cons (pv 1) pa_nil)) (pa_cons (pe_callB (cr_max2T rfl (by exact hr.units)) (by rfl) T.m_max (by decide +kernel) (pa_cons (pv 1) pa_nil)) pa_nil)) (by rfl))
 (pss_one (ps_ret (pe_cmpR op_ne (pe_chain op_lt op_lt (pv 4) (pv 2) (pv 5)) (pe_chain op_lt op_lt (pv 4) (pv 3) (pv 5)) (nomark _))))))), ?_⟩
    obtain ⟨t, rfl, ht⟩ := hp
    obtain ⟨u, rfl, hu⟩ := hq
    have sT : SqT K H t [.int p.1, .int p.2] := .inl (.inl ht)
    have sU : SqT K H u [.int q.1, .int q.2] := .inl (.inl hu)
    obtain ⟨a, b⟩ := p
    obtain ⟨c, d⟩ := q
    dsimp only at *
    refine ⟨_, rfl, t, _, rfl, sT, rfl, _, _, rfl, _, _, rfl, rfl, ?_⟩
    refine ⟨_, rfl, _, rfl, u, _, rfl, .inr sU, rfl, rfl, _, rfl, ?_⟩
    show if inV (V.int a) [V.int c, V.int d] = true then _ else _
    rw [inV2]
    refine ite2 (fun g => ?_) (fun g => ?_)
    · have := of_decide_eq_true g
      rw [crossI_t (by dsimp only; omega)] at k
      exact k
    refine ⟨_, rfl, _, rfl, u, _, rfl, .inr sU, rfl, rfl, _, rfl, ?_⟩
    show if inV (V.int b) [V.int c, V.int d] = true then _ else _
    rw [inV2]
    refine ite2 (fun f => ?_) (fun f => ?_)
    · have := of_decide_eq_true f
      rw [crossI_t (by dsimp only; omega)] at k
      exact k
    have g := nd g
    have f := nd f
    rw [crossI_f (by dsimp only; omega)] at k
    dsimp only at k
    refine ⟨_, rfl, u, _, _, rfl, sU, _, rfl, u, _, _, rfl, sU, _, _, rfl, ?_⟩
    refine ⟨_, rfl, _, rfl, _, _, rfl, rfl, _, rfl, ite2 (fun g => ?_) (fun g => ?_)⟩
    · rw [and_t g] at k
      refine ⟨_, rfl, _, _, rfl, rfl, _, rfl, _, rfl, _, _, rfl, rfl, _, rfl, ite2 (fun f => ?_) (fun f => ?_)⟩
      · rw [and_t f] at k
        exact ⟨_, rfl, _, _, rfl, rfl, rfl, k⟩
      · rw [and_f f] at k
        exact ⟨rfl, k⟩
    · rw [and_f g] at k
      refine ⟨_, rfl, _, rfl, _, _, rfl, rfl, _, rfl, ite2 (fun f => ?_) (fun f => ?_)⟩
      · rw [and_t f] at k
        exact ⟨_, rfl, _, _, rfl, rfl, rfl, k⟩
      · rw [and_f f] at k
        exact ⟨rfl, k⟩

/-! ### turned and turned again: the mathematics -/
theorem list2_ext {l m : List (Int × Int)} (h1 : l.Pairwise le2) (h2 : m.Pairwise le2) (n1 : l.Nodup) (n2 : m.Nodup) (h : ∀ x, x ∈ l ↔ x ∈ m) : l = m :=
  List.Perm.eq_of_pairwise (le := le2) (fun _ _ _ _ => le2_anti) h1 h2 ((List.perm_ext_iff_of_nodup n1 n2).mpr h)
theorem cut_lt {n : Int} {l : List (Int × Int)} (h : IsCut n l) {p : Int × Int} (hp : p ∈ l) : 0 ≤ p.1 ∧ p.1 + 2 ≤ p.2 ∧ p.2 < n := by
  obtain ⟨T, hT, hR⟩ := h.ex
  obtain ⟨a, b⟩ := p
  have := (hR a b).mp hp
  have t := tie_in hT this.1
  exact ⟨t.1, this.2.1, by show b < n; omega⟩
theorem cut_nocross {n : Int} {l : List (Int × Int)} (h : IsCut n l) {p q : Int × Int} (hp : p ∈ l) (hq : q ∈ l) : crossI p q = false := by
  obtain ⟨T, hT, hR⟩ := h.ex
  obtain ⟨a, b⟩ := p
  obtain ⟨c, d⟩ := q
  have tp := ((hR a b).mp hp).1
  have tq := ((hR c d).mp hq).1
  have ip := tie_in hT tp
  have iq := tie_in hT tq
  by_cases e : c = a ∨ c = b ∨ d = a ∨ d = b
  · exact crossI_t e
  · unfold crossI
    rw [if_neg e, decide_eq_false]
    dsimp only
    rw [Int.min_eq_left (by omega), Int.max_eq_right (by omega), dec_ne]
    intro hne
    by_cases h1 : a < c ∧ c < b
    · exact nocross hT tp tq h1.1 h1.2 (by omega)
    · exact nocross hT tq tp (a := c) (b := d) (by omega) (by omega) (by omega)
theorem turns_cross {n : Int} {l : List (Int × Int)} {p : Int × Int} {x y : Int} (h : Turns n l p x y) : crossI (x, y) p = true := by
  have := h.crs
  have := h.xy
  unfold crossI
  rw [if_neg (by dsimp only; omega), decide_eq_true]
  dsimp only
  rw [Int.min_eq_left (by omega), Int.max_eq_right (by omega), dec_ne]
  omega
theorem one_of {l : List (Int × Int)} {p : Int × Int} (hn : l.Nodup) (h : ∀ q, q ∈ l ↔ q = p) : l = [p] := by
  have : l.Perm [p] := (List.perm_ext_iff_of_nodup hn (by simp)).mpr fun q => by rw [h, List.mem_singleton]
  exact List.perm_singleton.mp this
theorem turns_fresh {n : Int} {l : List (Int × Int)} {p : Int × Int} {x y : Int} (h : Turns n l p x y) : ((turnL n l p).filter fun q => decide (q ∉ l)) = [(x, y)] := by
  refine one_of (h.isC.nd.filter _) fun q => ?_
  rw [List.mem_filter, decide_eq_true_eq, h.mem]
  constructor
  · rintro ⟨⟨h1, _⟩ | h1, h2⟩
    · exact absurd h1 h2
    · exact h1
  · rintro rfl
    exact ⟨.inr rfl, h.new⟩
theorem turns_old {n : Int} {l : List (Int × Int)} {p : Int × Int} {x y : Int} (h : Turns n l p x y) : p ∉ turnL n l p := fun hm => by
  have hc := h.crs
  rcases (h.mem p).mp hm with ⟨_, h2⟩ | h2
  · exact h2 rfl
  · rw [h2] at hc
    dsimp only at hc
    omega
theorem pr_comm (a b : Int) : pr a b = pr b a := by
  show (min a b, max a b) = (min b a, max b a)
  rw [Int.min_comm, Int.max_comm]
theorem pr_of_lt {a b : Int} (h : a < b) : pr a b = (a, b) := by
  show (min a b, max a b) = _
  rw [Int.min_eq_left (by omega), Int.max_eq_right (by omega)]
theorem turn_back {n : Int} {l : List (Int × Int)} {p : Int × Int} {x y : Int} (hc : IsCut n l) (hs : l.Pairwise le2) (hp : p ∈ l) (h : Turns n l p x y) : turnL n (turnL n l p) (x, y) = l := by
  have hxm : (x, y) ∈ turnL n l p := (h.mem _).mpr (.inr rfl)
  obtain ⟨x', y', h'⟩ := turns h.isC hxm
  obtain ⟨a, b⟩ := p
  have lt := cut_lt hc hp
  have hcr := h.crs
  dsimp only at lt hcr
  have hx : x ∈ besL (tiesS n l) n a b := by rw [h.bes]; simp
  have hy : y ∈ besL (tiesS n l) n a b := by rw [h.bes]; simp
  have sp : ∀ z, z ∈ besL (tiesS n l) n a b → pr a z ∈ tiesS n l ∧ pr b z ∈ tiesS n l := fun z hz => by
    have := (List.mem_filter.mp hz).2
    rw [Bool.and_eq_true, decide_eq_true_eq, decide_eq_true_eq] at this
    exact this
  have mv : ∀ q, q ∈ tiesS n l → q ≠ (a, b) → q ∈ tiesS n (turnL n l (a, b)) := fun q hq hne => by
    have := sort2_mem.mp hq
    refine sort2_mem.mpr ?_
    rcases List.mem_append.mp this with h1 | h1
    · exact List.mem_append.mpr (.inl h1)
    · exact List.mem_append.mpr (.inr ((h.mem q).mpr (.inl ⟨h1, hne⟩)))
  have ne1 : ∀ z, z ≠ a → z ≠ b → pr a z ≠ (a, b) ∧ pr b z ≠ (a, b) := fun z h1 h2 => by
    constructor
    · intro e
      have e1 : min a z = a := congrArg Prod.fst e
      have e2 : max a z = b := congrArg Prod.snd e
      omega
    · intro e
      have e1 : min b z = a := congrArg Prod.fst e
      have e2 : max b z = b := congrArg Prod.snd e
      omega
  have nx := ne1 x (by omega) (by omega)
  have ny := ne1 y (by omega) (by omega)
  have ax := mv _ (sp x hx).1 nx.1
  have bx := mv _ (sp x hx).2 nx.2
  have ay := mv _ (sp y hy).1 ny.1
  have bx' := mv _ (sp y hy).2 ny.2
  have ha : a ∈ besL (tiesS n (turnL n l (a, b))) n x y := by
    refine List.mem_filter.mpr ⟨mem_rng.mpr ⟨lt.1, by omega⟩, ?_⟩
    rw [pr_comm x a, pr_comm y a, decide_eq_true ax, decide_eq_true ay]; rfl
  have hb : b ∈ besL (tiesS n (turnL n l (a, b))) n x y := by
    refine List.mem_filter.mpr ⟨mem_rng.mpr ⟨by omega, lt.2.2⟩, ?_⟩
    rw [pr_comm x b, pr_comm y b, decide_eq_true bx, decide_eq_true bx']; rfl
  rw [h'.bes] at ha hb
  have hxy' := h'.xy
  simp only [List.mem_cons, List.not_mem_nil, or_false] at ha hb
  have e1 : x' = a := by omega
  have e2 : y' = b := by omega
  subst e1; subst e2
  refine list2_ext h'.srt hs h'.isC.nd hc.nd fun q => ?_
  rw [h'.mem, h.mem]
  constructor
  · rintro (⟨⟨h1, _⟩ | h1, h2⟩ | h1)
    · exact h1
    · exact absurd h1 h2
    · rw [h1]; exact hp
  · intro hq
    by_cases e : q = (x', y')
    · exact .inr e
    · refine .inl ⟨.inl ⟨hq, e⟩, fun e2 => h.new (e2 ▸ hq)⟩

def TupAt (H : Hp) (x : V) (ns : List Int) : Prop := ∃ t, x = V.ref t ∧ H t = some (.tup (ns.map V.int))
theorem PrAt.tup {H : Hp} {x : V} {p : Int × Int} (h : PrAt K H x p) : TupAt H x [p.1, p.2] := h
def sp_tuple : Sp := fun vs H Q _ => ∃ (x : V) (ns : List Int), vs = [x, .int (ns.length : Int)] ∧ TupAt H x ns ∧ ns.length ≤ 100 ∧ Q (.bl true) H
theorem ok__law_tuple (T : Env K mg) : FnOk P w K mg base CX0 2 T.a__law_tuple T.fd__law_tuple ["_law_found", "_law_many_here"] sp_tuple := by
  refine T.F__law_tuple.ok sc__law_tuple (fun vs H Q E h => ?_) (fun cdv A outer s H vs Q E hr h => ?_)
  · obtain ⟨x, ns, rfl, _⟩ := h
    rfl
  · obtain ⟨x, ns, rfl, hx, hl, q⟩ := h
    refine ⟨_, (pss_cons (ps_if (PW.pt (pw_or (pt_not (pt_val (pe_callB call_isi (by rfl) T.m_isinstance (by decide +kernel) (pa_cons (pv 0) (pa_cons (pe_bltn (v := .ty "tuple") (u := .type "tuple") (by rfl) T.m_tuple (by decide +kernel) rfl) pa_nil))))) (pw_or1 (pt_cmpR op_ne (pe_callB (id := "len") call_len_seq (by rfl) T.m_len (by decide +kernel) (pa_cons (pv 0) pa_nil)) (pv 1) (nomark _)))))
 (pss_one (ps_ret pe_bl))
 pss_nil)
 (pss_cons (ps_for PassesOwn.never rfl (pi_tup (pv 0)) (pg_name (i := 2) sc__law_tuple.nd rfl (.inl rfl))
 (pss_one (ps_if (pt_not (pt_val (pe_call (ok__law_whole T) (hr.mono (by decide)) (by rfl) T.g__law_whole T.F__law_whole.kp T.b__law_whole .nil pass0 (pa_cons (pv 2) pa_nil))))
 (pss_one (ps_ret pe_bl))
 pss_nil)))
 (pss_one (ps_ret pe_bl)))), ?_⟩
    obtain ⟨p, rfl, hp⟩ := hx
    have hS : SqT K H p (ns.map V.int) := .inl (.inl hp)
    refine ⟨_, rfl, _, _, _, _, _, rfl, .ty _, .base (.tup hp), kit_ty (by decide +kernel), true, rfl, ?_⟩
    show if false = true then _ else _
    rw [if_neg Bool.false_ne_true]
    refine ⟨_, rfl, _, _, rfl, .inr hS, _, rfl, rfl, _, rfl, ?_⟩
    have el : V.int ((ns.map V.int).length : Int) = V.int (ns.length : Int) := by rw [List.length_map]
    refine iteNS el ?_
    refine ⟨_, rfl, p, rfl, ⟨_, hS⟩, for_tup (K := K) (a := p) (xs := ns.map V.int) (fun i σ H' => H' = H ∧ ∃ z, σ = [some (.ref p), some (.int (ns.length : Int)), z]) ⟨rfl, _, rfl⟩ (fun i σ H' _ ⟨e, _⟩ => by rw [e]; exact hS) ?_ ?_⟩
    · rintro i v σ H' hi ⟨rfl, z, rfl⟩
      obtain ⟨n, rfl⟩ : ∃ n, v = .int n := by
        rw [List.getElem?_map] at hi
        cases e : ns[i]? with
        | none => rw [e] at hi; cases hi
        | some m => rw [e] at hi; exact ⟨m, (Option.some.inj hi).symm⟩
      refine ⟨_, rfl, _, rfl, true, rfl, iteF ?_⟩
      exact ⟨rfl, _, rfl⟩
    · rintro σ H' ⟨rfl, z, rfl⟩
      exact q

/-! ### the law's look at a told dict -/
def sp_dict (K : PySem.W.Frag) : Sp := fun vs H Q _ => ∃ (a b : Addr) (dom dom' : List (Int × Int)) (f : Int × Int → Int × Int), vs = [.ref a, .ref b] ∧ a ≠ b ∧ FD K H a dom f ∧ FD K H b dom' f ∧ (∀ p, p ∈ dom ↔ p ∈ dom') ∧
  (∀ p ∈ dom', Frac 4000 (f p)) ∧ dom'.length ≤ 100 ∧ ∀ H', Same H H' → Q (.bl true) H'
theorem ok__law_dict (T : Env K mg) : FnOk P w K mg base CX0 3 T.a__law_dict T.fd__law_dict ["_law_found", "_law_due"] (sp_dict K) := by
  refine T.F__law_dict.ok sc__law_dict (fun vs H Q E h => ?_) (fun cdv A outer s H vs Q E hr h => ?_)
  · obtain ⟨a, b, dom, dom', f, rfl, _⟩ := h
    rfl
  · obtain ⟨a, b, dom, dom', f, rfl, hab, hA, hB, hm, hF, hfew, q⟩ := h
    refine ⟨_, (pss_cons (ps_if (PW.pt (pw_or (pt_not (pt_val (pe_callB call_isi (by rfl) T.m_isinstance (by decide +kernel) (pa_cons (pv 0) (pa_cons (pe_bltn (v := .ty "dict") (u := .type "dict") (by rfl) T.m_dict (by decide +kernel) rfl) pa_nil))))) (pw_or1 (pt_cmpR op_ne (pe_callB (id := "len") call_lenT (by rfl) T.m_len (by decide +kernel) (pa_cons (pv 0) pa_nil)) (pe_callB (id := "len") call_lenT (by rfl) T.m_len (by decide +kernel) (pa_cons (pv 1) pa_nil)) (nomark _)))))
 (pss_one (ps_ret pe_bl))
 pss_nil)
 (pss_cons (ps_lock (ps_for PassesOwn.never rfl (pi_itemsT (pv 1)) (pg_tup rfl (pgs_cons (pg_name (i := 2) sc__law_dict.nd rfl (.inl rfl)) (pgs_cons (pg_name (i := 3) sc__law_dict.nd rfl (.inl rfl)) pgs_nil)))
 (pss_one (ps_if (PW.pt (pw_or (pt_cmp (pc_dnotin (hu_of hr) (pv 2) (pv 0))) (pw_or (pt_not (pt_val (pe_call (ok__law_part T) (hr.mono (by decide)) (by rfl) T.g__law_part T.F__law_part.kp T.b__law_part .nil pass0 (pa_cons (pe_dget (hu_of hr) (pv 0) (pv 2) (fun _ _ => rfl)) pa_nil)))) (pw_or1 (pt_cmpR (op_neP2 (by have h_ := hr.units; exact h_)) (pe_dget (hu_of hr) (pv 0) (pv 2) (fun _ _ => rfl)) (pv 3) (nomark _))))))
 (pss_one (ps_ret pe_bl))
 pss_nil))))
 (pss_cons (ps_lock (ps_for PassesOwn.never rfl (pi_keysMT (pv 0)) (pg_name (i := 2) sc__law_dict.nd rfl (.inl rfl))
 (pss_one (ps_if (pt_not (pt_val (pe_call (ok__law_tuple T) (hr.mono (by decide)) (by rfl) T.g__law_tuple T.F__law_tuple.kp T.b__law_tuple .nil pass0 (pa_cons (pv 2) (pa_cons pe_int pa_nil)))))
 (pss_one (ps_ret pe_bl))
 pss_nil))))
 (pss_one (ps_ret pe_bl))))), ?_⟩
    obtain ⟨⟨ka, ea, ra⟩, na, sa⟩ := hA
    obtain ⟨⟨kb, eb, rb⟩, nb, sb⟩ := hB
    have la := ra.length
    have lb := rb.length
    have ll := dom_len na nb hm
    refine ⟨_, rfl, _, _, _, _, _, rfl, .ty _, .base (.dT ea), kit_ty (by decide +kernel), true, rfl, ?_⟩
    show if false = true then _ else _
    rw [if_neg Bool.false_ne_true]
    refine ⟨_, rfl, a, ka, rfl, ea, _, rfl, b, kb, rfl, eb, rfl, _, rfl, iteNS (by rw [la, lb, ll]) ?_⟩
    refine ⟨b, _, eb, True.intro, fun od => ?_⟩
    refine ⟨_, rfl, b, od, kb, rfl, upd_same, for_itemsT (fun i σ H' => ∃ y z, σ = [some (.ref a), some (.ref b), y, z] ∧ Same (upd H b (.frz od (.dT kb))) H') ⟨_, _, rfl, Same.refl _⟩ (fun i σ H' _ ⟨_, _, _, s⟩ => s _ _ upd_same) ?_ ?_⟩
    · rintro i k v u t σ H' hk ⟨y, z, rfl, s1⟩ ht hu
      have eA : (upd H b (.frz od (.dT kb))) a = some (.dT ka) := by rw [upd_ne hab]; exact ea
      have s2 : Same H' (upd H' t (.tup [.ref u, v])) := same_new ht
      have s3 := s1.trans s2
      obtain ⟨p, hp, e1, e2⟩ := rb.at hk
      have hpm : p ∈ dom' := List.mem_of_getElem? hp
      have e1 : k = pk p := e1
      subst e1
      obtain ⟨va, g1, g2⟩ := Ents.get ra ((hm p).mpr hpm)
      have fp := hF p hpm
      have tS : TupS H (upd H b (.frz od (.dT kb))) := fun w ys e => by
        rw [upd_ne (ne_of e eb (fun z => nomatch z))]
        exact e
      have tS2 := tS.trans (TupS.of s3)
      obtain ⟨wa, rfl, ga⟩ := g2
      obtain ⟨wb, rfl, gb⟩ := e2
      have ga := tS2 _ _ ga
      have gb := tS2 _ _ gb
      have hu3 := s2 _ _ hu
      have ht3 : (upd H' t (.tup [.ref u, .ref wb])) t = some (.tup [.ref u, .ref wb]) := upd_same
      have eA3 := s3 _ _ eA
      generalize upd H' t (.tup [.ref u, .ref wb]) = H3 at *
      have dg : DGet H3 a (.ref u) (some (.ref wa)) := by rw [← g1]; exact DGet.t eA3 hu3
      refine ⟨t, _, rfl, .inl (.inl ht3), rfl, _, _, rfl, _, _, rfl, rfl, ?_⟩
      refine ⟨_, rfl, _, rfl, a, _, rfl, dg, _, rfl, iteF ?_⟩
      refine ⟨_, rfl, _, rfl, a, _, rfl, dg, wa, _, _, rfl, ga, fp.low, fp.log (by decide), fun H4 s4 => ⟨true, rfl, iteF ?_⟩⟩
      refine ⟨_, rfl, _, rfl, a, _, rfl, (by rw [← g1]; exact DGet.t (s4 _ _ eA3) (s4 _ _ hu3)), _, rfl, f p, f p, ⟨wa, rfl, s4 _ _ ga⟩, ⟨wb, rfl, s4 _ _ gb⟩, _, rfl, ?_⟩
      show if (!decide (f p = f p)) = true then _ else _
      rw [decide_eq_true rfl]
      refine iteF ?_
      exact ⟨_, _, rfl, s3.trans s4⟩
    · rintro σ H' ⟨y, z, rfl, s1⟩
      refine ⟨s1 _ _ upd_same, ?_⟩
      have s2 := Same.unlock eb s1
      have eA2 := s2 _ _ ea
      have eB2 := s2 _ _ eb
      have tS2 := TupS.of s2
      generalize upd H' b (.dT kb) = H2 at *
      refine ⟨a, _, eA2, True.intro, fun oa => ?_⟩
      refine ⟨_, rfl, a, oa, ka, rfl, upd_same, for_keysT (fun i σ H' => ∃ y z, σ = [some (.ref a), some (.ref b), y, z] ∧ Same (upd H2 a (.frz oa (.dT ka))) H') ⟨_, _, rfl, Same.refl _⟩ (fun i σ H' _ ⟨_, _, _, s⟩ => s _ _ upd_same) ?_ ?_⟩
      · rintro i k v u σ H3 hk ⟨y, z, rfl, s3⟩ hu
        obtain ⟨p, hp, e1, _⟩ := ra.at hk
        have e1 : k = pk p := e1
        subst e1
        refine ⟨_, rfl, V.ref u, [p.1, p.2], rfl, ⟨u, rfl, hu⟩, (by show 2 ≤ 100; decide), true, rfl, iteF ?_⟩
        exact ⟨_, _, rfl, s3⟩
      · rintro σ H3 ⟨y, z, rfl, s3⟩
        refine ⟨s3 _ _ upd_same, ?_⟩
        exact q _ (s2.trans (Same.unlock eA2 s3))

/-! ### the law's lengths for the ties -/
theorem perm_of_sub {α : Type} [BEq α] [LawfulBEq α] : ∀ (l m : List α), l.Nodup → (∀ x ∈ l, x ∈ m) → m.length ≤ l.length → m.Perm l
  | [], m, _, _, h => by
    have : m = [] := List.length_eq_zero_iff.mp (Nat.le_zero.mp h)
    rw [this]
  | x :: l, m, hn, hs, h => by
    have hx : x ∈ m := hs x (by simp)
    have hnx := List.nodup_cons.mp hn
    have ih := perm_of_sub l (m.erase x) hnx.2 (fun y hy => (List.mem_erase_of_ne (fun e => hnx.1 (by rw [e] at hy; exact hy))).mpr (hs y (List.mem_cons_of_mem _ hy))) (by
      rw [List.length_erase_of_mem hx]
      rw [List.length_cons] at h
      omega)
    exact (List.perm_cons_erase hx).trans (ih.cons x)

theorem mod_apart {i j s L : Nat} (h : j < i) (hi : i < L) : (i + s) % L ≠ (j + s) % L := fun e => by
  have h1 := Nat.sub_mod_eq_zero_of_mod_eq e
  rw [show i + s - (j + s) = i - j by omega, Nat.mod_eq_of_lt (by omega)] at h1
  omega
theorem nodup_at2 {α : Type} {l : List α} (h : l.Nodup) {i j : Nat} {x : α} (hi : l[i]? = some x) (hj : l[j]? = some x) : i = j := nodup_at h hi hj
def rotK (tl : List (Int × Int)) (s j : Nat) : Int × Int := tl.getD ((j + s) % tl.length) (0, 0)
theorem rotK_at {tl : List (Int × Int)} (h : 0 < tl.length) (s j : Nat) : tl[(j + s) % tl.length]? = some (rotK tl s j) := by
  have hl : (j + s) % tl.length < tl.length := Nat.mod_lt _ h
  unfold rotK
  rw [List.getD_eq_getElem?_getD, List.getElem?_eq_getElem hl]
  rfl
theorem rotK_mem {tl : List (Int × Int)} (h : 0 < tl.length) (s j : Nat) : rotK tl s j ∈ tl := List.mem_of_getElem? (rotK_at h s j)
theorem rotK_new {tl : List (Int × Int)} (hn : tl.Nodup) {s i : Nat} (hi : i < tl.length) : rotK tl s i ∉ (List.range i).map (rotK tl s) := fun hm => by
  obtain ⟨j, hj, e⟩ := List.mem_map.mp hm
  rw [List.mem_range] at hj
  have h0 : 0 < tl.length := by omega
  have a := rotK_at h0 s i
  rw [← e] at a
  exact mod_apart (s := s) hj hi (nodup_at hn a (rotK_at h0 s j))
def sp_sized (K : PySem.W.Frag) : Sp := fun vs H Q _ => ∃ (t p : Addr) (zs : List V) (tl : List (Int × Int)) (rs : List Int), vs = [.ref t, .ref p] ∧ H t = some (.lst zs) ∧ PrL K H zs tl ∧ SqL K H p (rs.map V.int) ∧ rowOk rs ∧
  tl.Nodup ∧ (∀ p ∈ tl, smallP p) ∧ 0 < tl.length ∧ tl.length ≤ rs.length ∧ tl.length ≤ 60 ∧
  ∀ H' d dom f, Same H H' → H d = none → FD K H' d dom f → (∀ p, p ∈ dom ↔ p ∈ tl) → (∀ p, p ∈ tl → F2 10 7 (f p)) → Q (.ref d) H'
theorem ok__law_sized (T : Env K mg) : FnOk P w K mg base CX0 3 T.a__law_sized T.fd__law_sized ["_law_all_ties", "_law_row"] (sp_sized K) := by
  refine T.F__law_sized.ok sc__law_sized (fun vs H Q E h => ?_) (fun cdv A outer s H vs Q E hr h => ?_)
  · obtain ⟨t, p, zs, tl, rs, rfl, _⟩ := h
    rfl
  · obtain ⟨t, p, zs, tl, rs, rfl, ht, hZ, hR, hro, hn, hs, h0, hrl, h60, q⟩ := h
    refine ⟨_, (pss_cons (ps_set (i := 2) sc__law_sized.nd rfl (.inl rfl) pe_dnewT)
 (pss_cons (ps_for PassesOwn.never rfl (pi_range1 (by rfl) T.m_range (pa_cons (pe_callB (id := "len") call_len_seq (by rfl) T.m_len (by decide +kernel) (pa_cons (pv 0) pa_nil)) pa_nil)) (pg_name (i := 3) sc__law_sized.nd rfl (.inl rfl))
 (pss_cons (ps_set (i := 4) sc__law_sized.nd rfl (.inl rfl) (pe_op op_mod (pe_op op_add (pv 3) (pe_op op_fdiv (pe_ix ix_list (pv 1) pe_int (fun _ _ => rfl)) pe_int)) (pe_callB (id := "len") call_len_seq (by rfl) T.m_len (by decide +kernel) (pa_cons (pv 0) pa_nil))))
 (pss_one (ps_dput (hu_of hr) (pv 2) (pe_ix ix_list (pv 0) (pv 4) (fun _ _ => rfl)) (pe_call (ok__law_size T) (hr.mono (by decide)) (by rfl) T.g__law_size T.F__law_size.kp T.b__law_size .nil pass0 (pa_cons (pe_ix ix_list (pv 1) (pv 4) (fun _ _ => rfl)) pa_nil)) rfl))))
 (pss_one (ps_ret (pv 2))))), ?_⟩
    have hzl := hZ.length
    obtain ⟨r0, m0, a0⟩ := int_at (rs := rs) (k := 0) (by omega)
    have b0 := (hro r0 m0).1
    obtain ⟨s0, es0⟩ : ∃ s0 : Nat, r0 / 17 = (s0 : Int) := ⟨(r0 / 17).toNat, by omega⟩
    intro D hD
    have s1 : Same H _ := same_new (o := .dT []) hD
    refine ⟨_, rfl, _, _, rfl, .inl (.inl (.inl (s1 _ _ ht))), _, rfl, by omega, by omega, for_range (lo := 0) (n := ((zs.length : Nat) : Int).toNat) (fun i σ H' => ∃ y z, σ = [some (.ref t), some (.ref p), some (.ref D), y, z] ∧ Same H H' ∧ ∃ f, FD K H' D ((List.range i).map (rotK tl s0)) f ∧ ∀ q ∈ (List.range i).map (rotK tl s0), F2 10 7 (f q)) ⟨_, _, rfl, s1, fun _ => (0, 1), FD.nil upd_same, fun _ h => nomatch h⟩ ?_ ?_⟩
    · rintro i σ H' hi ⟨y, z, rfl, s2, f, hF, hFr⟩
      have hi' : i < tl.length := by omega
      have ex := rotK_at h0 s0 i
      obtain ⟨u, eu, hu⟩ := hZ.at' ex
      obtain ⟨u, rfl, hu⟩ := hu
      have eat : (0 + (i : Int) + r0 / 17) % (zs.length : Int) = (((i + s0) % tl.length : Nat) : Int) := by
        rw [es0, Int.zero_add, hzl, Int.natCast_emod, Int.natCast_add]
      have hrl2 : (i + s0) % tl.length < rs.length := Nat.lt_of_lt_of_le (Nat.mod_lt _ h0) hrl
      obtain ⟨rv, mv, av⟩ := int_at hrl2
      refine ⟨_, rfl, _, rfl, p, _, _, _, rfl, rfl, s2.seq hR, a0, _, _, rfl, rfl, ⟨by decide, by decide⟩, _, _, rfl, rfl, ?_⟩
      refine ⟨_, rfl, t, zs, rfl, .inl (.inl (.inl (s2 _ _ ht))), _, _, rfl, rfl, (by show (0 : Int) < _; omega), ?_⟩
      have eu2 : atI zs ((0 + (i : Int) + r0 / 17) % (zs.length : Int)) = some (.ref u) := by rw [eat]; exact atI_nat eu
      rw [← eat] at av
      refine ⟨_, rfl, _, rfl, p, _, _, _, rfl, rfl, s2.seq hR, av, rv, rfl, fun H3 v x s3 hv hx => ?_⟩
      have s23 := s2.trans s3
      have hF3 := hF.mono s3
      obtain ⟨⟨kvs, e1, e2⟩, nd, sm⟩ := hF3
      refine ⟨_, rfl, _, rfl, _, rfl, t, _, _, _, rfl, rfl, .inl (.inl (s23 _ _ ht)), eu2, D, _, rfl, DPut.t e1 (key_pk (s23 _ _ hu)) ?_, ?_⟩
      · have := e2.length
        rw [List.length_map, List.length_range] at this
        exact small200' (by omega)
      refine ⟨_, _, rfl, same_put s23 hD, setF f (rotK tl s0 i) x, ?_, ?_⟩
      · rw [List.range_succ, List.map_append]
        exact FD.put nd sm e1 e2 (rotK_new hn hi') (hs _ (rotK_mem h0 s0 i)) hv
      · intro q hq
        unfold setF
        split
        · exact hx
        · next ne =>
          rw [List.range_succ, List.map_append] at hq
          rcases List.mem_append.mp hq with z | z
          · exact hFr q z
          · exact absurd (List.mem_singleton.mp z) ne
    · rintro σ H' ⟨y, z, rfl, s2, f, hF, hFr⟩
      have el : ((zs.length : Nat) : Int).toNat = tl.length := by omega
      rw [el] at hF hFr
      have hsub : ∀ q ∈ (List.range tl.length).map (rotK tl s0), q ∈ tl := fun q hq => by
        obtain ⟨j, _, e⟩ := List.mem_map.mp hq
        rw [← e]
        exact rotK_mem h0 s0 j
      have hp := perm_of_sub _ _ hF.nd hsub (by rw [List.length_map, List.length_range]; exact Nat.le_refl _)
      exact ⟨_, rfl, q H' D _ f s2 hD hF (fun q => hp.symm.mem_iff) (fun q hq => hFr q (hp.mem_iff.mp hq))⟩

/-! ### the ratio of a rope -/
/-- the post between, the post beyond -/
def mOf (p : Int × Int) (x y : Int) : Int := if p.1 < x ∧ x < p.2 then x else y
def zOf (p : Int × Int) (x y : Int) : Int := if p.1 < x ∧ x < p.2 then y else x
def rateV (f : Int × Int → Int × Int) (p : Int × Int) (m z : Int) : Int × Int := divV (mulV (f (pr p.1 m)) (f (pr p.2 z))) (mulV (f (pr m p.2)) (f (pr z p.1)))
def rateL (n : Int) (l : List (Int × Int)) (f : Int × Int → Int × Int) (p : Int × Int) : Int × Int := match besL (tiesS n l) n p.1 p.2 with
  | [x, y] => rateV f p (mOf p x y) (zOf p x y)
  | _ => (0, 1)
theorem rateL_at {n : Int} {l : List (Int × Int)} {f : Int × Int → Int × Int} {p : Int × Int} {x y : Int} (h : Turns n l p x y) : rateL n l f p = rateV f p (mOf p x y) (zOf p x y) := by
  unfold rateL
  rw [h.bes]
theorem bes_ties {t : List (Int × Int)} {n a b : Int} {x : Int} (h : x ∈ besL t n a b) : pr a x ∈ t ∧ pr b x ∈ t := by
  unfold besL at h
  have := (List.mem_filter.mp h).2
  simp only [Bool.and_eq_true, decide_eq_true_eq] at this
  exact this

structure Around (n : Int) (l : List (Int × Int)) (p : Int × Int) (m z : Int) : Prop where
  lm : pr p.1 m ∈ tiesS n l
  hm : pr p.2 m ∈ tiesS n l
  lz : pr p.1 z ∈ tiesS n l
  hz : pr p.2 z ∈ tiesS n l
  m0 : p.1 < m
  m1 : m < p.2
  out : z < p.1 ∨ p.2 < z
theorem round {n : Int} {l : List (Int × Int)} {p : Int × Int} {x y : Int} (h : Turns n l p x y) : Around n l p (mOf p x y) (zOf p x y) := by
  have hx := bes_ties (t := tiesS n l) (n := n) (a := p.1) (b := p.2) (x := x) (by rw [h.bes]; simp)
  have hy := bes_ties (t := tiesS n l) (n := n) (a := p.1) (b := p.2) (x := y) (by rw [h.bes]; simp)
  have hc := h.crs
  unfold mOf zOf
  by_cases g : p.1 < x ∧ x < p.2
  · rw [if_pos g, if_pos g]
    exact ⟨hx.1, hx.2, hy.1, hy.2, g.1, g.2, by omega⟩
  · rw [if_neg g, if_neg g]
    exact ⟨hy.1, hy.2, hx.1, hx.2, by omega, by omega, by omega⟩
/-- a tuple of two pairs -/
def TwoAt (K : PySem.W.Frag) (H : Hp) (v : V) (p q : Int × Int) : Prop := ∃ (t : Addr) (u w : V), v = .ref t ∧ H t = some (.tup [u, w]) ∧ PrAt K H u p ∧ PrAt K H w q
theorem TwoAt.mono {H H' : Hp} {v : V} {p q : Int × Int} (s : Same H H') (h : TwoAt K H v p q) : TwoAt K H' v p q := by
  obtain ⟨t, u, w, e, ht, hu, hw⟩ := h
  exact ⟨t, u, w, e, s _ _ ht, hu.mono s, hw.mono s⟩
def sp_round (K : PySem.W.Frag) (C : Addr) : Sp := fun vs H Q E => ∃ (n : Int) (c : Addr) (xs : List V) (l : List (Int × Int)) (a b : Int), vs = [.int n, .ref c, .int a, .int b] ∧ 3 ≤ n ∧ n ≤ 12 ∧ H c = some (.lst xs) ∧ PrL K H xs l ∧ l.length ≤ 100 ∧ IsCut n l ∧
  (pr a b ∉ l → ∀ H', Same H H' → E (.ref C) none H') ∧
  (pr a b ∈ l → ∀ x y, Turns n l (pr a b) x y → ∀ H' q u w, Same H H' → H' q = some (.tup [u, w]) → TwoAt K H' u (pr (pr a b).1 (mOf (pr a b) x y)) (pr (pr a b).2 (zOf (pr a b) x y)) → TwoAt K H' w (pr (mOf (pr a b) x y) (pr a b).2) (pr (zOf (pr a b) x y) (pr a b).1) → Q (.ref q) H')
theorem pi_listK {X : Cx} {tg l : Expr} {tl : TE} (hK : X.K = K) (hl : PE X l tl) : PI X tg l (iList K tl) := by
  subst hK
  exact pi_list hl
theorem pg_tupK {X : Cx} {pos : Pos} {es : List Expr} {k : Nat} {t : TGs} {n : Nat} (hK : X.K = K) (hc : X.calm = true) (h : PGs X es t)
    (hn : (assignEach es X.env).length = n := by rfl) (hst : (assignEach es X.env).findIdx? (·.1) = none := by rfl) : PG X (.Tuple es k pos) (gTup K n t) := by
  subst hK
  exact pg_tup hc h hn hst

/-! ### {key: value for ..}, the keys tuples -/
section
variable {X : Cx}
theorem put_dt {pins : List (Addr × Obj)} {σ : L2.St} {H : Hp} {s : Shared} {Z : Value → Shared → Prop} {d b : Addr} {kvs : List (List L2.Key × V)} {k : List L2.Key} {v : V} {r : Value} {R : Unit → Shared → Prop} (hu : X.A.units + 1 < cLine)
    (J : Inv X pins σ H s) (ed : H d = some (.dT kvs)) (eb : H b = some (.tup (k.map kV))) (few : kvs.length < sizeLine) (rv : RelV v r) (go : ∀ s2, Inv X pins σ (upd H d (.dT (putK kvs k v))) s2 → R () s2) :
    wpAny (model X.prog X.w) X.A (dictSet d (.ref b) r) R Z s := by
  obtain ⟨lz, nd, ms, al, ent⟩ := dt_of J.hok ed
  have lm : ms.length ≤ sizeLine := (Paired.length al) ▸ lz
  have lput : (putK kvs k v).length ≤ sizeLine := Nat.le_trans (length_putK kvs k v) (by omega)
  refine wpAny_dictSet_heap (hsz := lm) (show X.A.units < cLine by omega) (key_of J.hok eb) ent fun g ent2 sb => go _ ?_
  obtain ⟨ob, e1, n1, w1, w2, w3, w4, _, w5⟩ := ent2
  refine d_write J (by rw [ed]; exact True.intro) sb ⟨ob, w1⟩ ⟨lput, nd, _, ?_, ob, e1, n1, w1, w2, w3, w4, w5⟩
  refine (al.put k eb rv).keeps fun c ys hc => ?_
  rw [upd_ne (ne_of hc ed (fun q => nomatch q))]
  exact hc
/-- D is the new dict -/
def tDct (wi : TI) (g : TG) (tt : TT) (tk tv : TE) (vs : List Nat) : TE := fun σ H Q => wi σ H fun J H1 => ∀ D, H1 D = none → ∃ W : Nat → Nat → Hp → Prop, (∃ m, W 0 m (upd H1 D (.dT []))) ∧ ∀ i m H, W i m H →
  (J.stop i H ∧ Q (.ref D) H) ∨ (J.go i H ∧ ∃ Nx : Hp → Prop, (∀ H', Nx H' → ∃ m', m' < m ∧ W (i + 1) m' H') ∧ ∀ x H', J.yld i H x H' → g x (wipe σ vs) H' fun σ2 H2 => wipe σ2 vs = wipe σ vs ∧ tt σ2 H2 fun b H3 =>
    if b = true then tk σ2 H3 fun y H4 => tv σ2 H4 fun z H5 => ∃ kvs k c, y = .ref c ∧ H5 c = some (.tup (k.map kV)) ∧ H5 D = some (.dT kvs) ∧ kvs.length < sizeLine ∧ Nx (upd H5 D (.dT (putK kvs k z))) else Nx H3)
end

section
variable {X : Cx}
theorem dct_block {pins : List (Addr × Obj)} {s : Shared} {σ : L2.St} {H : Hp} {Q : VK} {kx vx tg iter : Expr} {ifs : List Expr} {scope : Scope} {own : List (Str × Nat)} {pos at0 : Pos} {wi : TI} {g : TG} {tt : TT} {tk tv : TE} {use : Option (Value → Sem Unit)} {Z : Value → Shared → Prop}
    (cal : X.calm = true) (hu : X.A.units + 1 < cLine) (uniq : X.N.Nodup) (I : Inv X pins σ H s) (walk : PI X tg iter wi) (blk : BlkOk X.N X.env.scope scope own)
    (ptg : ∀ (s0 : Shared) (H0 : Hp) (C0 : Addr) (cs : List (Str × Addr)) (ad : List Addr), PG (X.blk s0 H0 scope (compEnvC scope cs C0 X.env) ad) tg g)
    (pts : ∀ (s0 : Shared) (H0 : Hp) (C0 : Addr) (cs : List (Str × Addr)) (ad : List Addr), PTs (X.blk s0 H0 scope (compEnvC scope cs C0 X.env) ad) ifs tt)
    (pky : ∀ (s0 : Shared) (H0 : Hp) (C0 : Addr) (cs : List (Str × Addr)) (ad : List Addr), PE (X.blk s0 H0 scope (compEnvC scope cs C0 X.env) ad) kx tk)
    (pvl : ∀ (s0 : Shared) (H0 : Hp) (C0 : Addr) (cs : List (Str × Addr)) (ad : List Addr), PE (X.blk s0 H0 scope (compEnvC scope cs C0 X.env) ad) vx tv)
    (fold : ∀ x, foldedSetIterable iter X.env x = pure x) (rd : tDct wi g tt tk tv (own.map (·.2)) σ H Q)
    (fin : ∀ D C sf names F, Inv X pins σ F sf → Q (.ref D) F → sf.heap.Ns C names → FpOk X pins F C → compPost (model X.prog X.w) X.A X.xe use Z (.ref D) C (.ok .next) sf) :
    wpAny (model X.prog X.w) X.A (comprehension (.DictComp kx vx [⟨tg, iter, ifs, 0⟩] scope pos) scope X.env at0 newDict false (eval iter X.env) use) Z X.xe s := by
  have cells : ∀ y ∈ scope.names, y.2 = .free → ∃ c, X.env.cells.lookup y.1 = some c := fun y my ey =>
    (blk.free y my ey).elim (fun z => I.ok.has _ (.inl z)) (fun z => I.ok.has _ (.inr z))
  refine wpAny_comprehension_free (use := use) rfl fold (closure_ok cells) blk.kind (fun y my ey => (blk.uniq y my).trans (by rw [ey])) (thn (walk.run pins s σ H _ I rd) fun x0 sa ha => thn ha fun i0 sb hb => ?_)
  obtain ⟨itA, ad, stn, J, Hb, rfl, Ib, Trn, stb, frb, body⟩ := hb
  refine wpAny_newObj_type (newEnv_comp ?_)
  obtain ⟨D, eD⟩ : ∃ D, D = sb.heap.objs.size := ⟨_, rfl⟩
  rw [← eD]
  have freeD : Hb D = none := Ib.hok.fresh (Nat.le_of_eq eD.symm)
  obtain ⟨W, ⟨mS, wS⟩, each⟩ := body D freeD
  obtain ⟨sc, esc⟩ : ∃ sc : Shared, sc = { sb with heap := sb.heap.push { cls := .type "dict", data := .dict #[] } } := ⟨_, rfl⟩
  obtain ⟨Hc, eHc⟩ : ∃ Hc, Hc = upd Hb D (.dT []) := ⟨_, rfl⟩
  have hpc : sc.heap = sb.heap.push { cls := .type "dict", data := .dict #[] } := by rw [esc]
  have Ic : Inv X pins σ Hc sc := by
    rw [eHc, esc]
    refine Ib.laid (t' := sb.toks) (fun b o z => Heap.get?_push_of_some _ z) (Nat.le_of_eq eD.symm) ?_
    rw [eD]
    exact dt_empty sb.heap Ib.big
  have small : ∀ b ∈ ad, b < sb.heap.objs.size := fun b mb => let ⟨_, ob, _⟩ := Trn.obj _ _ stb b mb; Heap.lt_size ob
  have frc : ∀ b ∈ ad, FpOk X pins Hc b ∧ b < sc.heap.objs.size := fun b mb => by
    have lb := small b mb
    refine ⟨⟨?_, (frb b mb).2⟩, by rw [hpc, Heap.size_push]; exact Nat.lt_succ_of_lt lb⟩
    rw [eHc, upd_ne (by rw [eD]; exact Nat.ne_of_lt lb)]
    exact (frb b mb).1
  have stc : stn 0 sc.heap := Trn.keep _ _ _ stb fun b _ o z => by rw [hpc]; exact Heap.get?_push_of_some _ z
  have Id := block_start Ic blk uniq frc
  have g1 := ptg sc Hc sc.heap.objs.size (cellsFrom (sc.heap.objs.size + 1) scope.names (cloFrom X.env.cells scope.names [])) ad
  have t1 := pts sc Hc sc.heap.objs.size (cellsFrom (sc.heap.objs.size + 1) scope.names (cloFrom X.env.cells scope.names [])) ad
  have k1 := pky sc Hc sc.heap.objs.size (cellsFrom (sc.heap.objs.size + 1) scope.names (cloFrom X.env.cells scope.names [])) ad
  have v1 := pvl sc Hc sc.heap.objs.size (cellsFrom (sc.heap.objs.size + 1) scope.names (cloFrom X.env.cells scope.names [])) ad
  have nadc : ∀ b ∈ ad, Hc b = none := fun b mb => (frc b mb).1.1
  rw [← esc]
  rw [← eHc] at wS
  show codeAny _ _ (.compStart (.DictComp kx vx [⟨tg, iter, ifs, 0⟩] scope pos) 0 (.ref itA) (.ref D) (compEnvC scope (cellsFrom (sc.heap.objs.size + 1) scope.names (cloFrom X.env.cells scope.names [])) sc.heap.objs.size X.env)) (compPost (model X.prog X.w) X.A X.xe use Z (.ref D) sc.heap.objs.size) { sc with heap := pushCells (sc.heap.push { cls := .type "dict", data := .dict #[] }) scope.names }
  obtain ⟨bE, hbE⟩ : ∃ bE, bE = compEnvC scope (cellsFrom (sc.heap.objs.size + 1) scope.names (cloFrom X.env.cells scope.names [])) sc.heap.objs.size X.env := ⟨_, rfl⟩
  have atL : bE.locals = sc.heap.objs.size := by rw [hbE]; rfl
  rw [← hbE] at Id g1 t1 k1 v1 ⊢
  obtain ⟨sd, esd⟩ : ∃ sd : Shared, sd = { sc with heap := pushCells (sc.heap.push { cls := .type "dict", data := .dict #[] }) scope.names } := ⟨_, rfl⟩
  have std : stn 0 sd.heap := Trn.keep _ _ _ stc fun b _ o z => by rw [esd]; exact pushCells_keeps _ _ _ _ (Heap.get?_push_of_some _ z)
  rw [← esd] at Id ⊢
  have firm : ∀ {τ : L2.St} {F : Hp} {u : Shared}, Inv (X.blk sc Hc scope bE ad) [] τ F u → (∀ b ∈ ad, F b = none) → ∀ b ∈ ad, FpOk (X.blk sc Hc scope bE ad) [] F b := fun {τ F u} Iu nu b mb =>
    ⟨nu b mb, (Iu.ok.exf b mb).1, Iu.ok.exfs b mb, Or.inl mb, fun x c z => (Iu.ok.exf b mb).2 x c z, fun p mp => by cases (show p ∈ ([] : List (Addr × Obj)) from mp)⟩
  refine codeAny_compStart_dict ?loop (Trn.self X.A 0 _ _ _ std ?loop)
  refine compLoop_anyD (fun m u => ∃ i F, Inv (X.blk sc Hc scope bE ad) [] (wipe σ (own.map (·.2))) F u ∧ stn i u.heap ∧ (∀ b ∈ ad, F b = none) ∧ W i m F) ?_ mS ⟨0, Hc, Id, std, nadc, wS⟩
  rintro m se ⟨i, F, Ie, ste, nde, we⟩
  rcases each i m F we with ⟨ends, post⟩ | ⟨goes, Nx, falls, turn⟩
  · refine thnF (Trn.done (X.blk sc Hc scope bE ad) rfl rfl rfl cal i [] se _ F (fun _ _ => False) Ie (firm Ie nde) ste ends) fun r sf ⟨er, If⟩ => ?_
    subst er
    have Ig : Inv X pins σ F sf := Ic.call' (ch := ad) If.os If.base If.hok If.bare fun b mb =>
      let z := (frc b mb).1
      ⟨z.2.2.2.1, z.2.1, z.2.2.2.2.1, z.2.2.2.2.2⟩
    have nl : F sc.heap.objs.size = none := by rw [← atL]; exact If.free
    obtain ⟨names, ns, _⟩ := If.loc
    have ns : sf.heap.Ns bE.locals names := ns
    rw [atL] at ns
    exact fin D _ sf names F Ig post ns (Ic.fpOk (Nat.le_refl _) nl)
  · refine thnF (Trn.item (X.blk sc Hc scope bE ad) rfl rfl rfl cal i [] se _ F (fun _ _ => False) Ie (firm Ie nde) ste goes) fun r sf ⟨u, er, hf⟩ => ?_
    subst er
    refine thnF hf fun _ sg ⟨x, G, Ig, rg, yg, stg, ndg⟩ => ?_
    have Ip := Ig.pinned (firm Ig ndg) (Trn.obj _ _ stg)
    refine thnF (g1.run _ sg _ G x u _ Ip rg (turn x G yg)) fun _ sh ⟨τ, Hh, Ih, wh, rest⟩ => ?_
    refine thnF (t1.run _ sh τ Hh _ Ih rest) fun yes si ⟨Hi, Ii, qi⟩ => ?_
    have close : ∀ {u : Shared} {F2 : Hp}, Inv (X.blk sc Hc scope bE ad) ([] ++ pinsAt ad sg.heap) τ F2 u → Nx F2 → ∃ m2, m2 < m ∧ ∃ i F, Inv (X.blk sc Hc scope bE ad) [] (wipe σ (own.map (·.2))) F u ∧ stn i u.heap ∧ (∀ b ∈ ad, F b = none) ∧ W i m2 F := fun {u F2} Iu nx => by
      obtain ⟨m2, less, w2⟩ := falls F2 nx
      have pinned : ∀ b ∈ ad, ∀ o, sg.heap.get? b = some o → u.heap.get? b = some o ∧ F2 b = none := fun b mb o z => by
        have zz := Iu.pin (b, o) (List.mem_append_right _ (List.mem_append_right _ (mem_pinsAt mb z)))
        exact ⟨zz.1, zz.2.1⟩
      have same : (wipe σ (own.map (·.2))).length = τ.length := by rw [← wh, wipe_length]
      refine ⟨m2, less, i + 1, F2, (Iu.unpinned (pins := [])).weak same (fun j v z => ?_), Trn.keep _ _ _ stg fun b mb o z => (pinned b mb o z).1, fun b mb => ?_, w2⟩
      · exact (wipe_some (by rw [wh]; exact z)).1
      · exact let ⟨o, z, _⟩ := Trn.obj _ _ stg b mb; (pinned b mb o z).2
    cases yes with
    | false =>
      rw [if_neg Bool.false_ne_true] at qi ⊢
      exact close Ii qi
    | true =>
      rw [if_pos rfl] at qi ⊢
      refine thnF (k1.run _ si τ Hi _ Ii qi) fun ku sj ⟨yk, Hj, Ij, rj, qj⟩ => ?_
      refine thnF (v1.run _ sj τ Hj _ Ij qj) fun vu sk ⟨yv, Hk, Ik, rk, kvs, k, c, ek, ec, eDk, few, nx⟩ => ?_
      subst ek
      obtain rfl : ku = Value.ref c := rj
      exact put_dt (X := X.blk sc Hc scope bE ad) hu Ik eDk ec few rk fun sl Il => close Il nx
theorem pe_dct {kx vx tg iter : Expr} {ifs : List Expr} {scope : Scope} {own : List (Str × Nat)} {pos : Pos} {wi : TI} {g : TG} {tt : TT} {tk tv : TE} (cal : X.calm = true) (hu : X.A.units + 1 < cLine) (uniq : X.N.Nodup) (walk : PI X tg iter wi) (blk : BlkOk X.N X.env.scope scope own)
    (ptg : ∀ (s0 : Shared) (H0 : Hp) (C0 : Addr) (cs : List (Str × Addr)) (ad : List Addr), PG (X.blk s0 H0 scope (compEnvC scope cs C0 X.env) ad) tg g)
    (pts : ∀ (s0 : Shared) (H0 : Hp) (C0 : Addr) (cs : List (Str × Addr)) (ad : List Addr), PTs (X.blk s0 H0 scope (compEnvC scope cs C0 X.env) ad) ifs tt)
    (pky : ∀ (s0 : Shared) (H0 : Hp) (C0 : Addr) (cs : List (Str × Addr)) (ad : List Addr), PE (X.blk s0 H0 scope (compEnvC scope cs C0 X.env) ad) kx tk)
    (pvl : ∀ (s0 : Shared) (H0 : Hp) (C0 : Addr) (cs : List (Str × Addr)) (ad : List Addr), PE (X.blk s0 H0 scope (compEnvC scope cs C0 X.env) ad) vx tv)
    (fold : ∀ x, foldedSetIterable iter X.env x = pure x := by intro _; rfl) :
    PE X (.DictComp kx vx [⟨tg, iter, ifs, 0⟩] scope pos) (tDct wi g tt tk tv (own.map (·.2))) := by
  refine ⟨fun pins s σ H Q I rd => ?_⟩
  rw [arm_eval_DictComp]
  refine dct_block cal hu uniq I walk blk ptg pts pky pvl fold rd fun D C sf names F If qf ns fp => ⟨names, ns, fun h2 sb2 => ?_⟩
  exact let ⟨f0, f1, f2, f3, f4, f5⟩ := fp; ⟨.ref D, F, If.turned (t' := sf.toks) (fun b o mb z => (sb2.2 b mb).trans z) f0 f1 f3 f4 f5, rfl, qf⟩
theorem ps_setDct {i : Nat} {y : Str} {py : Pos} {kx vx tg iter : Expr} {ifs : List Expr} {scope : Scope} {own : List (Str × Nat)} {pos spos : Pos} {wi : TI} {g : TG} {tt : TT} {tk tv : TE} (cal : X.calm = true) (hu : X.A.units + 1 < cLine) (uniq : X.N.Nodup) (hy : X.N[i]? = some y)
    (loc : X.env.scope.names.lookup y = some .local) (swp : swapsWith (.DictComp kx vx [⟨tg, iter, ifs, 0⟩] scope pos) (some (.Name y py)) spos.line X.env = pure true) (walk : PI X tg iter wi) (blk : BlkOk X.N X.env.scope scope own)
    (ptg : ∀ (s0 : Shared) (H0 : Hp) (C0 : Addr) (cs : List (Str × Addr)) (ad : List Addr), PG (X.blk s0 H0 scope (compEnvC scope cs C0 X.env) ad) tg g)
    (pts : ∀ (s0 : Shared) (H0 : Hp) (C0 : Addr) (cs : List (Str × Addr)) (ad : List Addr), PTs (X.blk s0 H0 scope (compEnvC scope cs C0 X.env) ad) ifs tt)
    (pky : ∀ (s0 : Shared) (H0 : Hp) (C0 : Addr) (cs : List (Str × Addr)) (ad : List Addr), PE (X.blk s0 H0 scope (compEnvC scope cs C0 X.env) ad) kx tk)
    (pvl : ∀ (s0 : Shared) (H0 : Hp) (C0 : Addr) (cs : List (Str × Addr)) (ad : List Addr), PE (X.blk s0 H0 scope (compEnvC scope cs C0 X.env) ad) vx tv)
    (fold : ∀ x, foldedSetIterable iter X.env x = pure x := by intro _; rfl) :
    PS X (.Assign [.Name y py] (.DictComp kx vx [⟨tg, iter, ifs, 0⟩] scope pos) spos) (tAsg (tDct wi g tt tk tv (own.map (·.2))) (gName i)) := by
  refine ⟨fun pins s σ H E I rd => ?_⟩
  rw [exec_Assign_Name_used _ _ _ _ swp]
  have rd : tDct wi g tt tk tv (own.map (·.2)) σ H (fun x F => gName i x σ F E.nx) := rd
  refine wpAny_bind (wpAny_standAt (wpAny_bind ?_))
  show wpAny _ X.A (do let _ ← comprehension (.DictComp kx vx [⟨tg, iter, ifs, 0⟩] scope pos) scope X.env (firstIterPos [⟨tg, iter, ifs, 0⟩] pos) newDict false (eval iter X.env) (some (assign (.Name y py) X.env))) _ _ s
  refine wpAny_bind (thn (dct_block (Z := fun _ u => SP X pins E .next u) cal hu uniq I walk blk ptg pts pky pvl fold rd fun L C sf names F If qf ns fp => ?_) fun _ _ z => wpAny_pure (wpAny_pure z))
  show wpAny _ _ (assign (.Name y py) X.env (.ref L)) _ _ _
  obtain ⟨f0, f1, f2, f3, f4, f5⟩ := fp
  refine wpAny_assign_Name (store_ok2 (v := V.ref L) If uniq hy (.inl loc) rfl (fun sz Iz ⟨a, sb, wh⟩ => ?_) (.inr loc))
  have off : C ≠ a := wh.elim (fun z => by rw [z]; exact f1) (fun z e => f4 y a z e.symm)
  exact ⟨names, ns.sameBut sb off, fun hz sbz => ⟨_, F, Iz.turned (t' := sz.toks) (fun b o mb z => (sbz.2 b mb).trans z) f0 f1 f3 f4 f5, qf⟩⟩
theorem dct_list {K : PySem.W.Frag} {a : Addr} {xs : List V} {g : TG} {tt : TT} {tk tv : TE} {vs : List Nat} {σ : L2.St} {H1 : Hp} {D : Addr} {Qd : Hp → Prop} (Pv : Nat → Hp → Prop) (h0 : Pv 0 (upd H1 D (.dT []))) (keep : ∀ i H, i ≤ xs.length → Pv i H → SqL K H a xs)
    (turn : ∀ i x H, xs[i]? = some x → Pv i H → g x (wipe σ vs) H fun σ2 H2 => wipe σ2 vs = wipe σ vs ∧ tt σ2 H2 fun b H3 =>
      if b = true then tk σ2 H3 fun y H4 => tv σ2 H4 fun z H5 => ∃ kvs k c, y = V.ref c ∧ H5 c = some (.tup (k.map kV)) ∧ H5 D = some (.dT kvs) ∧ kvs.length < sizeLine ∧ Pv (i + 1) (upd H5 D (.dT (putK kvs k z))) else Pv (i + 1) H3) (last : ∀ H, Pv xs.length H → Qd H) :
    ∃ W : Nat → Nat → Hp → Prop, (∃ m, W 0 m (upd H1 D (.dT []))) ∧ ∀ i m H, W i m H →
      ((Itl K a).stop i H ∧ Qd H) ∨ ((Itl K a).go i H ∧ ∃ Nx : Hp → Prop, (∀ H', Nx H' → ∃ m', m' < m ∧ W (i + 1) m' H') ∧ ∀ x H', (Itl K a).yld i H x H' → g x (wipe σ vs) H' fun σ2 H2 => wipe σ2 vs = wipe σ vs ∧ tt σ2 H2 fun b H3 =>
        if b = true then tk σ2 H3 fun y H4 => tv σ2 H4 fun z H5 => ∃ kvs k c, y = V.ref c ∧ H5 c = some (.tup (k.map kV)) ∧ H5 D = some (.dT kvs) ∧ kvs.length < sizeLine ∧ Nx (upd H5 D (.dT (putK kvs k z))) else Nx H3) := by
  refine ⟨fun i m F => i + m = xs.length ∧ Pv i F, ⟨xs.length, Nat.zero_add _, h0⟩, fun i m F ⟨im, pv⟩ => ?_⟩
  have lst := keep i F (by omega) pv
  cases m with
  | zero =>
    obtain rfl : i = xs.length := by omega
    exact .inl ⟨⟨xs, lst, Nat.le_refl _⟩, last F pv⟩
  | succ m =>
    have lt : i < xs.length := by omega
    refine .inr ⟨⟨xs, xs[i], lst, List.getElem?_eq_getElem lt⟩, Pv (i + 1), fun F' pv' => ⟨m, Nat.lt_succ_self m, by omega, pv'⟩, fun x F' yl => ?_⟩
    obtain ⟨rfl, same⟩ := yl
    exact turn i x _ (same xs lst) pv
theorem dct_keysT {a : Addr} {o : Obj} {kvs : List (List Key × V)} {g : TG} {tt : TT} {tk tv : TE} {vs : List Nat} {σ : L2.St} {H1 : Hp} {D : Addr} {Qd : Hp → Prop} (Pv : Nat → Hp → Prop) (h0 : Pv 0 (upd H1 D (.dT []))) (keep : ∀ i H, i ≤ kvs.length → Pv i H → H a = some (.frz o (.dT kvs)))
    (turn : ∀ i k v q H, kvs[i]? = some (k, v) → Pv i H → H q = some (.tup (k.map kV)) → g (.ref q) (wipe σ vs) H fun σ2 H2 => wipe σ2 vs = wipe σ vs ∧ tt σ2 H2 fun b H3 =>
      if b = true then tk σ2 H3 fun y H4 => tv σ2 H4 fun z H5 => ∃ kvs k c, y = V.ref c ∧ H5 c = some (.tup (k.map kV)) ∧ H5 D = some (.dT kvs) ∧ kvs.length < sizeLine ∧ Pv (i + 1) (upd H5 D (.dT (putK kvs k z))) else Pv (i + 1) H3) (last : ∀ H, Pv kvs.length H → Qd H) :
    ∃ W : Nat → Nat → Hp → Prop, (∃ m, W 0 m (upd H1 D (.dT []))) ∧ ∀ i m H, W i m H →
      ((Itkt a o kvs).stop i H ∧ Qd H) ∨ ((Itkt a o kvs).go i H ∧ ∃ Nx : Hp → Prop, (∀ H', Nx H' → ∃ m', m' < m ∧ W (i + 1) m' H') ∧ ∀ x H', (Itkt a o kvs).yld i H x H' → g x (wipe σ vs) H' fun σ2 H2 => wipe σ2 vs = wipe σ vs ∧ tt σ2 H2 fun b H3 =>
        if b = true then tk σ2 H3 fun y H4 => tv σ2 H4 fun z H5 => ∃ kvs k c, y = V.ref c ∧ H5 c = some (.tup (k.map kV)) ∧ H5 D = some (.dT kvs) ∧ kvs.length < sizeLine ∧ Nx (upd H5 D (.dT (putK kvs k z))) else Nx H3) := by
  refine ⟨fun i m F => i + m = kvs.length ∧ Pv i F, ⟨kvs.length, Nat.zero_add _, h0⟩, fun i m F ⟨im, pv⟩ => ?_⟩
  have lst := keep i F (by omega) pv
  cases m with
  | zero =>
    obtain rfl : i = kvs.length := by omega
    exact .inl ⟨⟨lst, Nat.le_refl _⟩, last F pv⟩
  | succ m =>
    have lt : i < kvs.length := by omega
    refine .inr ⟨⟨lst, lt⟩, Pv (i + 1), fun F' pv' => ⟨m, Nat.lt_succ_self m, by omega, pv'⟩, fun x F' yl => ?_⟩
    obtain ⟨rfl, k, v, q, hk, rfl, hq⟩ := yl
    exact turn i k v q F' hk pv hq
end

def sp_prod (K : PySem.W.Frag) : Sp := fun vs H Q _ => ∃ (d : Addr) (v : V) (dom : List (Int × Int)) (f : Int × Int → Int × Int) (p q : Int × Int), vs = [.ref d, v] ∧ FD K H d dom f ∧ TwoAt K H v p q ∧ p ∈ dom ∧ q ∈ dom ∧ Frac 2000 (f p) ∧ Frac 2000 (f q) ∧
  ∀ H' r, Same H H' → PrAt K H' r (mulV (f p) (f q)) → Q r H'
def sp_ratio (K : PySem.W.Frag) (C : Addr) : Sp := fun vs H Q E => ∃ (n : Int) (c d : Addr) (xs : List V) (l dom : List (Int × Int)) (f : Int × Int → Int × Int) (a b : Int), vs = [.int n, .ref c, .ref d, .int a, .int b] ∧ 3 ≤ n ∧ n ≤ 12 ∧ H c = some (.lst xs) ∧ PrL K H xs l ∧ l.length ≤ 100 ∧ IsCut n l ∧
  FD K H d dom f ∧ (∀ p ∈ tiesS n l, p ∈ dom ∧ Frac 2000 (f p)) ∧ (pr a b ∉ l → ∀ H', Same H H' → E (.ref C) none H') ∧
  (pr a b ∈ l → ∀ H' v, Same H H' → PrAt K H' v (rateL n l f (pr a b)) → Q v H')
/-- the values of a row of pairs, as a function -/
def sp_ratios (K : PySem.W.Frag) : Sp := fun vs H Q _ => ∃ (n : Int) (c d : Addr) (xs : List V) (l dom : List (Int × Int)) (f : Int × Int → Int × Int), vs = [.int n, .ref c, .ref d] ∧ 3 ≤ n ∧ n ≤ 12 ∧ H c = some (.lst xs) ∧ PrL K H xs l ∧ l.length ≤ 100 ∧ IsCut n l ∧
  FD K H d dom f ∧ (∀ p ∈ tiesS n l, p ∈ dom ∧ Frac 2000 (f p)) ∧ ∀ H' D, Same H H' → H D = none → FD K H' D l (rateL n l f) → Q (.ref D) H'
/-! ### the law's ratios -/
def sp_lring (K : PySem.W.Frag) : Sp := fun vs H Q _ => ∃ (n : Int) (c : Addr) (v : V) (xs : List V) (l : List (Int × Int)) (p : Int × Int) (x y : Int), vs = [.int n, .ref c, v] ∧ 3 ≤ n ∧ n ≤ 12 ∧ H c = some (.lst xs) ∧ PrL K H xs l ∧ l.length ≤ 100 ∧ PrAt K H v p ∧ Turns n l p x y ∧
  ∀ H' q (ws : List Int), Same H H' → H' q = some (.lst (ws.map V.int)) → ws.Perm [p.1, p.2, x, y] → ws.Pairwise (· ≤ ·) → Q (.ref q) H'
theorem sort4 {ws zs : List Int} (h : ws.Perm zs) (hw : ws.Pairwise (· ≤ ·)) (hz : zs.Pairwise (· ≤ ·)) : ws = zs :=
  List.Perm.eq_of_pairwise (le := (· ≤ ·)) (fun _ _ _ _ => Int.le_antisymm) hw hz h
def sp_lratio (K : PySem.W.Frag) : Sp := fun vs H Q _ => ∃ (n : Int) (c d : Addr) (v : V) (xs : List V) (l dom : List (Int × Int)) (f : Int × Int → Int × Int) (p : Int × Int), vs = [.int n, .ref c, .ref d, v] ∧ 3 ≤ n ∧ n ≤ 12 ∧ H c = some (.lst xs) ∧ PrL K H xs l ∧ l.length ≤ 100 ∧ IsCut n l ∧ PrAt K H v p ∧ p ∈ l ∧
  FD K H d dom f ∧ (∀ p ∈ tiesS n l, p ∈ dom ∧ Frac 2000 (f p)) ∧ ∀ H' v, Same H H' → PrAt K H' v (rateL n l f p) → Q v H'
def sp_lratios (K : PySem.W.Frag) : Sp := fun vs H Q _ => ∃ (n : Int) (c d : Addr) (xs : List V) (l dom : List (Int × Int)) (f : Int × Int → Int × Int), vs = [.int n, .ref c, .ref d] ∧ 3 ≤ n ∧ n ≤ 12 ∧ H c = some (.lst xs) ∧ PrL K H xs l ∧ l.length ≤ 100 ∧ IsCut n l ∧
  FD K H d dom f ∧ (∀ p ∈ tiesS n l, p ∈ dom ∧ Frac 2000 (f p)) ∧ ∀ H' D, Same H H' → H D = none → FD K H' D l (rateL n l f) → Q (.ref D) H'
theorem side_rope {n : Int} {l : List (Int × Int)} (hC : IsCut n l) {u : Int × Int} (hu : u ∈ sidesL n) (hv : u ∈ l) : False := by
  obtain ⟨T, _, hT⟩ := hC.ex
  have hw := ((hT u.1 u.2).mp hv).2
  unfold sidesL at hu
  rcases List.mem_append.mp hu with z | z
  · obtain ⟨k, _, ek⟩ := List.mem_map.mp z
    rw [← ek] at hw
    have := hw.1
    omega
  · rw [List.mem_singleton.mp z] at hw
    exact hw.2 ⟨rfl, rfl⟩
theorem ties_nodup {n : Int} {l : List (Int × Int)} (hC : IsCut n l) : (tiesS n l).Nodup := by
  have h3 := hC.three
  refine sort2_nodup (List.nodup_append.mpr ⟨?_, hC.nd, ?_⟩)
  · unfold sidesL
    refine List.nodup_append.mpr ⟨?_, by simp, ?_⟩
    · have hr : (rng (n - 1)).Nodup := (rng_sorted _).imp (fun h => by omega)
      exact List.pairwise_map.mpr (hr.imp fun h e => h (Prod.mk.inj e).1)
    · intro u hu v hv e
      obtain ⟨k, _, ek⟩ := List.mem_map.mp hu
      rw [List.mem_singleton.mp hv] at e
      rw [← ek] at e
      have := Prod.mk.inj e
      omega
  · intro u hu v hv e
    subst e
    exact side_rope hC hu hv
theorem ties_small {n : Int} {l : List (Int × Int)} (hC : IsCut n l) (h12 : n ≤ 12) : ∀ p ∈ tiesS n l, smallP p := fun p hp => by
  have h3 := hC.three
  rcases List.mem_append.mp (sort2_mem.mp hp) with z | z
  · unfold sidesL at z
    rcases List.mem_append.mp z with z | z
    · obtain ⟨k, hk, ek⟩ := List.mem_map.mp z
      have := mem_rng.mp hk
      rw [← ek]
      exact ⟨by show 0 ≤ k; omega, by show k < 13; omega, by show 0 ≤ k + 1; omega, by show k + 1 < 13; omega⟩
    · rw [List.mem_singleton.mp z]
      exact ⟨by show (0 : Int) ≤ 0; omega, by show (0 : Int) < 13; omega, by show 0 ≤ n - 1; omega, by show n - 1 < 13; omega⟩
  · have := cut_lt hC z
    exact ⟨this.1, by omega, by omega, by omega⟩
theorem ties_count {n : Int} {l : List (Int × Int)} (hC : IsCut n l) : (tiesS n l).length = n.toNat + l.length := by
  unfold tiesS
  rw [sort2_len, List.length_append, sidesL_len hC.three]

theorem sw_trueD {kx vx : Expr} {gs : List Comprehension} {scope : Scope} {pos py : Pos} {y : Str} {l : Nat} {env : PySem.Env} (hk : env.scope.kind = .function) (hy : env.scope.names.lookup y = some .local) (hl : (py.line == pos.line) = true)
    (ha : (scope.names.any fun (n, k) => n == y && (k == .local || k == .cell)) = false) : swapsWith (.DictComp kx vx gs scope pos) (some (.Name y py)) l env = pure true := by
  have b1 : env.blockKind = .function := by unfold Env.blockKind; rw [hk]; rfl
  have b2 : env.kindOf y = some .local := hy
  unfold swapsWith
  simp only [b1, b2, ha, Expr.pos, hl]
  rfl

/-! ### the length across a rope -/
/-- of the pair q, by the rope p that it crosses -/
def acrV (f : Int × Int → Int × Int) (p q : Int × Int) : Int × Int := divV (addV (mulV (f (pr q.1 p.1)) (f (pr q.2 p.2))) (mulV (f (pr q.1 p.2)) (f (pr q.2 p.1)))) (f p)
theorem div_back {a b : Nat} {S z : Int × Int} (hS : Frac a S) (hz : Frac b z) : divV S (divV S z) = z := by
  have hp1 := Int.mul_pos hS.low.pos hz.top
  obtain ⟨L1, e1, _, _⟩ := lowI_ok (t := S.1 * z.2) (b := S.2 * z.1) (by omega)
  have fw := divV_frac hS hz
  have ew : divV S z = lowI (S.1 * z.2) (S.2 * z.1) := rfl
  rw [← ew] at e1
  generalize divV S z = w at *
  have hp2 := Int.mul_pos hS.low.pos fw.top
  obtain ⟨L2, e2, _, _⟩ := lowI_ok (t := S.1 * w.2) (b := S.2 * w.1) (by omega)
  have er : divV S w = lowI (S.1 * w.2) (S.2 * w.1) := rfl
  rw [← er] at L2 e2
  generalize divV S w = r at *
  have key : (S.2 * w.1) * (r.1 * z.2) = (S.2 * w.1) * (z.1 * r.2) := by
    have h1 : (S.2 * w.1) * (r.1 * z.2) = (r.1 * (S.2 * w.1)) * z.2 := by ac_rfl
    have h2 : (r.2 * (S.1 * w.2)) * z.2 = r.2 * (w.2 * (S.1 * z.2)) := by ac_rfl
    have h3 : (S.2 * w.1) * (z.1 * r.2) = r.2 * (w.1 * (S.2 * z.1)) := by ac_rfl
    rw [h1, e2, h2, ← e1, h3]
  have := low_same L2 hz.low (Int.eq_of_mul_eq_mul_left (by omega) key)
  exact Prod.ext this.1 this.2
theorem acrV_frac {b : Nat} {f : Int × Int → Int × Int} {p q : Int × Int} (h1 : Frac b (f (pr q.1 p.1))) (h2 : Frac b (f (pr q.2 p.2))) (h3 : Frac b (f (pr q.1 p.2))) (h4 : Frac b (f (pr q.2 p.1))) (h5 : Frac b (f p)) : Frac (b + b + (b + b) + 1 + b) (acrV f p q) :=
  divV_frac (addV_frac (mulV_frac h1 h2) (mulV_frac h3 h4)) h5
/-- and back again -/
theorem acr_back {b : Nat} {f g : Int × Int → Int × Int} {p q : Int × Int} (h1 : Frac b (f (pr q.1 p.1))) (h2 : Frac b (f (pr q.2 p.2))) (h3 : Frac b (f (pr q.1 p.2))) (h4 : Frac b (f (pr q.2 p.1))) (h5 : Frac b (f p))
    (g1 : g (pr q.1 p.1) = f (pr q.1 p.1)) (g2 : g (pr q.2 p.2) = f (pr q.2 p.2)) (g3 : g (pr q.1 p.2) = f (pr q.1 p.2)) (g4 : g (pr q.2 p.1) = f (pr q.2 p.1)) (gq : g q = acrV f p q) : acrV g q p = f p := by
  have e : addV (mulV (g (pr p.1 q.1)) (g (pr p.2 q.2))) (mulV (g (pr p.1 q.2)) (g (pr p.2 q.1))) = addV (mulV (f (pr q.1 p.1)) (f (pr q.2 p.2))) (mulV (f (pr q.1 p.2)) (f (pr q.2 p.1))) := by
    rw [pr_comm p.1 q.1, pr_comm p.2 q.2, pr_comm p.1 q.2, pr_comm p.2 q.1, g1, g2, g3, g4, mulV_comm (f (pr q.2 p.1))]
  have e2 : acrV g q p = divV (addV (mulV (g (pr p.1 q.1)) (g (pr p.2 q.2))) (mulV (g (pr p.1 q.2)) (g (pr p.2 q.1)))) (g q) := rfl
  rw [e2, e, gq]
  exact div_back (addV_frac (mulV_frac h1 h2) (mulV_frac h3 h4)) h5

/-! ### fractions as rationals -/
def vq (x : Int × Int) : Rat := (x.1 : Rat) / (x.2 : Rat)
theorem cast_ne {b : Int} (h : b ≠ 0) : (b : Rat) ≠ 0 := fun e => h (Rat.intCast_inj.mp (by rw [e]; rfl))
theorem vq_low {t b : Int} (h : b ≠ 0) : vq (lowI t b) = (t : Rat) / (b : Rat) := by
  obtain ⟨L, e, _, _⟩ := lowI_ok (t := t) h
  have hp := L.pos
  have h2 : ((lowI t b).2 : Rat) ≠ 0 := cast_ne (by omega)
  have hb := cast_ne h
  have e' : ((lowI t b).1 : Rat) * (b : Rat) = ((lowI t b).2 : Rat) * (t : Rat) := by
    rw [← Rat.intCast_mul, ← Rat.intCast_mul, e]
  unfold vq
  grind
theorem vq_inj {x y : Int × Int} (hx : Low x.1 x.2) (hy : Low y.1 y.2) (h : vq x = vq y) : x = y := by
  have h1 : (x.2 : Rat) ≠ 0 := cast_ne (by have := hx.pos; omega)
  have h2 : (y.2 : Rat) ≠ 0 := cast_ne (by have := hy.pos; omega)
  have e : (x.1 : Rat) * (y.2 : Rat) = (y.1 : Rat) * (x.2 : Rat) := by
    unfold vq at h
    grind
  rw [← Rat.intCast_mul, ← Rat.intCast_mul] at e
  have := low_same hx hy (Rat.intCast_inj.mp e)
  exact Prod.ext this.1 this.2
theorem Frac.n1 {b : Nat} {x : Int × Int} (h : Frac b x) : (x.1 : Rat) ≠ 0 := cast_ne (by have := h.top; omega)
theorem Frac.n2 {b : Nat} {x : Int × Int} (h : Frac b x) : (x.2 : Rat) ≠ 0 := cast_ne (by have := h.low.pos; omega)
theorem vq_mul {a b : Nat} {x y : Int × Int} (hx : Frac a x) (hy : Frac b y) : vq (mulV x y) = vq x * vq y := by
  have h1 := hx.n2
  have h2 := hy.n2
  unfold mulV
  rw [vq_low (by have := Int.mul_pos hx.low.pos hy.low.pos; omega), Rat.intCast_mul, Rat.intCast_mul]
  unfold vq
  grind
theorem vq_div {a b : Nat} {x y : Int × Int} (hx : Frac a x) (hy : Frac b y) : vq (divV x y) = vq x / vq y := by
  have h1 := hx.n2
  have h2 := hy.n2
  have h3 := hy.n1
  unfold divV
  rw [vq_low (by have := Int.mul_pos hx.low.pos hy.top; omega), Rat.intCast_mul, Rat.intCast_mul]
  unfold vq
  grind
theorem vq_add {a b : Nat} {x y : Int × Int} (hx : Frac a x) (hy : Frac b y) : vq (addV x y) = vq x + vq y := by
  have h1 := hx.n2
  have h2 := hy.n2
  unfold addV
  rw [vq_low (by have := Int.mul_pos hx.low.pos hy.low.pos; omega), Rat.intCast_add, Rat.intCast_mul, Rat.intCast_mul, Rat.intCast_mul]
  unfold vq
  grind
theorem vq_ne {b : Nat} {x : Int × Int} (h : Frac b x) : vq x ≠ 0 := by
  have h1 := h.n1
  have h2 := h.n2
  unfold vq
  grind
theorem one_frac : Frac 1 (1, 1) := ⟨by decide, ⟨by decide, by decide⟩, by decide, by decide⟩
theorem vq_one : vq (1, 1) = 1 := by
  unfold vq
  show ((1 : Int) : Rat) / ((1 : Int) : Rat) = 1
  rw [Rat.intCast_one]
  grind

/-! ### the ratios behind a turning -/
theorem tie_bd {n : Int} {l : List (Int × Int)} (hC : IsCut n l) {p : Int × Int} (hp : p ∈ tiesS n l) : 0 ≤ p.1 ∧ p.1 < p.2 ∧ p.2 < n := by
  have h3 := hC.three
  rcases List.mem_append.mp (sort2_mem.mp hp) with z | z
  · unfold sidesL at z
    rcases List.mem_append.mp z with z | z
    · obtain ⟨k, hk, ek⟩ := List.mem_map.mp z
      have := mem_rng.mp hk
      rw [← ek]
      exact ⟨by show 0 ≤ k; omega, by show k < k + 1; omega, by show k + 1 < n; omega⟩
    · rw [List.mem_singleton.mp z]
      exact ⟨by show (0 : Int) ≤ 0; omega, by show (0 : Int) < n - 1; omega, by show n - 1 < n; omega⟩
  · have := cut_lt hC z
    exact ⟨this.1, by omega, this.2.2⟩
theorem bes_of {n : Int} {l : List (Int × Int)} (hC : IsCut n l) {a b s : Int} (h1 : pr a s ∈ tiesS n l) (h2 : pr b s ∈ tiesS n l) : s ∈ besL (tiesS n l) n a b := by
  have := tie_bd hC h1
  unfold pr at this
  unfold besL
  refine List.mem_filter.mpr ⟨mem_rng.mpr (by simp only at this; omega), ?_⟩
  rw [decide_eq_true h1, decide_eq_true h2]
  rfl
theorem rate_in {n : Int} {l : List (Int × Int)} {f : Int × Int → Int × Int} (hC : IsCut n l) {r : Int × Int} (hr : r ∈ l) {s w : Int} (s1 : pr r.1 s ∈ tiesS n l) (s2 : pr r.2 s ∈ tiesS n l) (si : r.1 < s ∧ s < r.2)
    (w1 : pr r.1 w ∈ tiesS n l) (w2 : pr r.2 w ∈ tiesS n l) (wo : w < r.1 ∨ r.2 < w) : rateL n l f r = rateV f r s w := by
  obtain ⟨x, y, hT⟩ := turns hC hr
  rw [rateL_at hT]
  have hs := bes_of hC s1 s2
  have hw := bes_of hC w1 w2
  rw [hT.bes] at hs hw
  have hc := hT.crs
  simp only [List.mem_cons, List.not_mem_nil, or_false] at hs hw
  unfold mOf zOf
  by_cases g : r.1 < x ∧ x < r.2
  · rw [if_pos g, if_pos g, show x = s by omega, show y = w by omega]
  · rw [if_neg g, if_neg g, show y = s by omega, show x = w by omega]
/-- what stands at a tie round the rope -/
def Lq (f : Int × Int → Int × Int) (a b : Int) : Rat := vq (f (pr a b))
theorem Lq_comm (f : Int × Int → Int × Int) (a b : Int) : Lq f a b = Lq f b a := by unfold Lq; rw [pr_comm]
theorem rateV_q {b : Nat} {f : Int × Int → Int × Int} {p : Int × Int} {m z : Int} (h1 : Frac b (f (pr p.1 m))) (h2 : Frac b (f (pr p.2 z))) (h3 : Frac b (f (pr m p.2))) (h4 : Frac b (f (pr z p.1))) :
    vq (rateV f p m z) = (Lq f p.1 m * Lq f p.2 z) / (Lq f m p.2 * Lq f z p.1) ∧ Frac (b + b + (b + b)) (rateV f p m z) := by
  refine ⟨?_, divV_frac (mulV_frac h1 h2) (mulV_frac h3 h4)⟩
  unfold rateV Lq
  rw [vq_div (mulV_frac h1 h2) (mulV_frac h3 h4), vq_mul h1 h2, vq_mul h3 h4]
theorem pr_or (a b : Int) : pr a b = (a, b) ∨ pr a b = (b, a) := by
  unfold pr
  by_cases h : a ≤ b
  · exact .inl (by rw [Int.min_eq_left h, Int.max_eq_right h])
  · exact .inr (by rw [Int.min_eq_right (by omega), Int.max_eq_left (by omega)])
theorem ne_pr {a b : Int} {p : Int × Int} (h : ¬ (min a b = p.1 ∧ max a b = p.2)) : pr a b ≠ p := fun e => h ⟨congrArg Prod.fst e, congrArg Prod.snd e⟩
theorem pr_self {p : Int × Int} (h : p.1 < p.2) : pr p.1 p.2 = p := pr_of_lt h
theorem mne {a b : Rat} (h : a ≠ 0) (k : b ≠ 0) : a * b ≠ 0 := fun e => by
  rcases Rat.mul_eq_zero.mp e with z | z
  · exact h z
  · exact k z

/-! ### posts stood in the plane: each length of a tie is the spread of its posts -/
abbrev V2 := Rat × Rat
def det (u v : V2) : Rat := u.1 * v.2 - u.2 * v.1
theorem rpos_ne {a : Rat} (h : 0 < a) : a ≠ 0 := fun e => by rw [e] at h; exact absurd h (by decide)
theorem rdiv_pos {a b : Rat} (h : 0 < a) (k : 0 < b) : 0 < a / b := by
  rw [Rat.div_def]
  exact Rat.mul_pos h (Rat.inv_pos.mpr k)
def mid (L : Int → Int → Rat) (lo m hi : Int) (u v : V2) : V2 := ((L m hi / L lo hi) * u.1 + (L lo m / L lo hi) * v.1, (L m hi / L lo hi) * u.2 + (L lo m / L lo hi) * v.2)
def vec (L : Int → Int → Rat) : Int → Int → Tr → V2 → V2 → Int → V2
  | lo, _, .lf, u, v, z => if z = lo then u else v
  | lo, hi, .nd m l r, u, v, z => if z ≤ m then vec L lo m l u (mid L lo m hi u v) z else vec L m hi r (mid L lo m hi u v) v z
section
variable {S : Int → Prop} {L : Int → Int → Rat}
theorem vec_lo : ∀ {T : Tr} {lo hi : Int} {u v : V2}, TOk S lo hi T → vec L lo hi T u v lo = u
  | .lf, _, _, _, _, _ => if_pos rfl
  | .nd m l r, lo, hi, u, v, ⟨_, h1, h2⟩ => by
    have := h1.lt
    show (if lo ≤ m then _ else _) = u
    rw [if_pos (by omega)]
    exact vec_lo h1
theorem vec_hi : ∀ {T : Tr} {lo hi : Int} {u v : V2}, TOk S lo hi T → vec L lo hi T u v hi = v
  | .lf, lo, hi, _, _, h => if_neg (by have := h.1; omega)
  | .nd m l r, lo, hi, u, v, ⟨_, h1, h2⟩ => by
    have := h2.lt
    show (if hi ≤ m then _ else _) = v
    rw [if_neg (by omega)]
    exact vec_hi h2
theorem vec_left {m : Int} {l r : Tr} {lo hi z : Int} {u v : V2} (h : z ≤ m) : vec L lo hi (.nd m l r) u v z = vec L lo m l u (mid L lo m hi u v) z := if_pos h
theorem vec_right {m : Int} {l r : Tr} {lo hi z : Int} {u v : V2} (h1 : TOk S lo m l) (h2 : TOk S m hi r) (h : m ≤ z) : vec L lo hi (.nd m l r) u v z = vec L m hi r (mid L lo m hi u v) v z := by
  by_cases e : z = m
  · subst e
    rw [vec_left (Int.le_refl _), vec_hi h1, vec_lo h2]
  · exact if_neg (by omega)
theorem det_left {lo m hi : Int} {u v : V2} (h : det u v = L lo hi) (n : L lo hi ≠ 0) : det u (mid L lo m hi u v) = L lo m := by
  unfold det mid at *
  simp only at *
  grind
theorem det_right {lo m hi : Int} {u v : V2} (h : det u v = L lo hi) (n : L lo hi ≠ 0) : det (mid L lo m hi u v) v = L m hi := by
  unfold det mid at *
  simp only at *
  grind
theorem vec_tie : ∀ {T : Tr} {lo hi : Int} {u v : V2}, TOk S lo hi T → (∀ a b, tie lo hi T a b → L a b ≠ 0) → det u v = L lo hi → ∀ a b, tie lo hi T a b → det (vec L lo hi T u v a) (vec L lo hi T u v b) = L a b
  | .lf, lo, hi, u, v, h, n, hd, a, b, t => by
    obtain ⟨e1, e2⟩ := t
    subst e1; subst e2
    rw [vec_lo h, vec_hi h, hd]
  | .nd m l r, lo, hi, u, v, h, n, hd, a, b, t => by
    have nz := n _ _ (tie_root (T := .nd m l r))
    obtain ⟨_, h1, h2⟩ := id h
    rcases t with ⟨e1, e2⟩ | t | t
    · subst e1; subst e2
      rw [vec_lo h, vec_hi h, hd]
    · have q := tie_in h1 t
      rw [vec_left (by omega), vec_left (by omega)]
      exact vec_tie h1 (fun a b t => n a b (.inr (.inl t))) (det_left hd nz) a b t
    · have q := tie_in h2 t
      rw [vec_right h1 h2 (by omega), vec_right h1 h2 (by omega)]
      exact vec_tie h2 (fun a b t => n a b (.inr (.inr t))) (det_right hd nz) a b t
def comb (p q : Rat) (u v : V2) : V2 := (p * u.1 + q * v.1, p * u.2 + q * v.2)
theorem vec_cone : ∀ {T : Tr} {lo hi : Int} {u v : V2}, TOk S lo hi T → (∀ a b, tie lo hi T a b → 0 < L a b) → ∀ z, S z → lo ≤ z → z ≤ hi → ∃ p q : Rat, 0 ≤ p ∧ 0 ≤ q ∧ vec L lo hi T u v z = comb p q u v ∧ (lo < z → 0 < q) ∧ (z < hi → 0 < p)
  | .lf, lo, hi, u, v, h, n, z, hz, h1, h2 => by
    by_cases e : z = lo
    · subst e
      refine ⟨1, 0, by decide, by decide, ?_, fun k => absurd k (Int.lt_irrefl _), fun _ => by decide⟩
      rw [vec_lo h]
      unfold comb
      refine Prod.ext ?_ ?_ <;> simp only <;> grind
    · have e2 : z = hi := by have := h.2 z hz; omega
      subst e2
      refine ⟨0, 1, by decide, by decide, ?_, fun _ => by decide, fun k => absurd k (Int.lt_irrefl _)⟩
      rw [vec_hi h]
      unfold comb
      refine Prod.ext ?_ ?_ <;> simp only <;> grind
  | .nd m l r, lo, hi, u, v, h, n, z, hz, g1, g2 => by
    have nz := n _ _ (tie_root (T := .nd m l r))
    obtain ⟨_, h1, h2⟩ := id h
    have l1 := h1.lt
    have l2 := h2.lt
    have a1 := rdiv_pos (n m hi (.inr (.inr tie_root))) nz
    have b1 := rdiv_pos (n lo m (.inr (.inl tie_root))) nz
    by_cases e : z ≤ m
    · obtain ⟨p, q, hp, hq, hv, k1, k2⟩ := vec_cone (u := u) (v := mid L lo m hi u v) h1 (fun a b t => n a b (.inr (.inl t))) z hz g1 e
      have x1 := Rat.mul_nonneg hq (Rat.le_of_lt a1)
      have x2 := Rat.mul_nonneg hq (Rat.le_of_lt b1)
      refine ⟨p + q * (L m hi / L lo hi), q * (L lo m / L lo hi), by grind, x2, ?_, fun k => Rat.mul_pos (k1 k) b1, fun _ => ?_⟩
      · rw [vec_left e, hv]
        unfold comb mid
        refine Prod.ext ?_ ?_ <;> simp only <;> grind
      · by_cases e2 : z < m
        · have := k2 e2
          grind
        · have := Rat.mul_pos (k1 (by omega)) a1
          grind
    · obtain ⟨p, q, hp, hq, hv, k1, k2⟩ := vec_cone (u := mid L lo m hi u v) (v := v) h2 (fun a b t => n a b (.inr (.inr t))) z hz (by omega) g2
      have x1 := Rat.mul_nonneg hp (Rat.le_of_lt a1)
      have x2 := Rat.mul_nonneg hp (Rat.le_of_lt b1)
      refine ⟨p * (L m hi / L lo hi), p * (L lo m / L lo hi) + q, x1, by grind, ?_, fun _ => ?_, fun k => Rat.mul_pos (k2 k) a1⟩
      · rw [vec_right h1 h2 (by omega), hv]
        unfold comb mid
        refine Prod.ext ?_ ?_ <;> simp only <;> grind
      · have := k1 (by omega)
        grind
theorem vec_pos : ∀ {T : Tr} {lo hi : Int} {u v : V2}, TOk S lo hi T → (∀ a b, tie lo hi T a b → 0 < L a b) → det u v = L lo hi → ∀ i j, S i → S j → lo ≤ i → i < j → j ≤ hi → 0 < det (vec L lo hi T u v i) (vec L lo hi T u v j)
  | .lf, lo, hi, u, v, h, n, hd, i, j, si, sj, h1, h2, h3 => by
    have e1 : i = lo := by have := h.2 i si; omega
    have e2 : j = hi := by have := h.2 j sj; omega
    subst e1; subst e2
    rw [vec_lo h, vec_hi h, hd]
    exact n _ _ tie_root
  | .nd m l r, lo, hi, u, v, h, n, hd, i, j, si, sj, g1, g2, g3 => by
    have nz := n _ _ (tie_root (T := .nd m l r))
    obtain ⟨_, h1, h2⟩ := id h
    have n1 : ∀ a b, tie lo m l a b → 0 < L a b := fun a b t => n a b (.inr (.inl t))
    have n2 : ∀ a b, tie m hi r a b → 0 < L a b := fun a b t => n a b (.inr (.inr t))
    have dl := det_left (m := m) hd (rpos_ne nz)
    have dr := det_right (m := m) hd (rpos_ne nz)
    by_cases e1 : j ≤ m
    · rw [vec_left (by omega), vec_left e1]
      exact vec_pos h1 n1 dl i j si sj g1 g2 e1
    by_cases e2 : m ≤ i
    · rw [vec_right h1 h2 e2, vec_right h1 h2 (by omega)]
      exact vec_pos h2 n2 dr i j si sj e2 g2 g3
    rw [vec_left (by omega), vec_right h1 h2 (by omega)]
    obtain ⟨p, q, hp, hq, hv, k1, k2⟩ := vec_cone (u := u) (v := mid L lo m hi u v) h1 n1 i si g1 (by omega)
    obtain ⟨p', q', hp', hq', hv', k1', k2'⟩ := vec_cone (u := mid L lo m hi u v) (v := v) h2 n2 j sj (by omega) g3
    have c1 := n1 _ _ tie_root
    have c2 := n2 _ _ tie_root
    rw [← dl] at c1
    rw [← dr] at c2
    rw [← hd] at nz
    have x1 := Rat.mul_pos (Rat.mul_pos (k2 (by omega)) (k1' (by omega))) nz
    have x2 := Rat.mul_nonneg (Rat.mul_nonneg hp hp') (Rat.le_of_lt c1)
    have x3 := Rat.mul_nonneg (Rat.mul_nonneg hq hq') (Rat.le_of_lt c2)
    rw [hv, hv']
    generalize mid L lo m hi u v = w at *
    have e : det (comb p q u w) (comb p' q' w v) = p * q' * det u v + (p * p' * det u w + q * q' * det w v) := by
      unfold det comb
      simp only
      grind
    rw [e]
    grind
end
/-- the rule of four, of any four posts -/
theorem pluecker (a b c d : V2) : det a c * det b d = det a b * det c d + det a d * det b c := by
  unfold det
  grind

theorem F2.qpos {t b : Nat} {x : Int × Int} (h : F2 t b x) : 0 < vq x := by
  unfold vq
  exact rdiv_pos (Rat.intCast_pos.mpr h.top) (Rat.intCast_pos.mpr h.low.pos)
/-! ### how large the places get -/
/-- v's places times d are whole -/
def Whl (d : Int) (v : V2) : Prop := ∃ x y : Int, v.1 * (d : Rat) = x ∧ v.2 * (d : Rat) = y
def Upto (M : Rat) (v : V2) : Prop := 0 ≤ v.1 ∧ v.1 ≤ M ∧ 0 ≤ v.2 ∧ v.2 ≤ M
theorem Whl.mul {d : Int} {v : V2} (h : Whl d v) (k : Int) : Whl (d * k) v := by
  obtain ⟨x, y, h1, h2⟩ := h
  refine ⟨x * k, y * k, ?_, ?_⟩
  · rw [Rat.intCast_mul, Rat.intCast_mul, ← h1]; grind
  · rw [Rat.intCast_mul, Rat.intCast_mul, ← h2]; grind
theorem Upto.le {M N : Rat} {v : V2} (h : Upto M v) (l : M ≤ N) : Upto N v := by
  obtain ⟨h1, h2, h3, h4⟩ := h
  exact ⟨h1, Rat.le_trans h2 l, h3, Rat.le_trans h4 l⟩
/-- the share of a place -/
theorem share_whl {x y z : Int × Int} (hx : 0 < x.2) (hz1 : 0 < z.1) (hz : 0 < z.2) (hy : 0 < y.2) : ∃ a b : Int, (vq x / vq z) * ((z.1 * (x.2 * y.2) : Int) : Rat) = a ∧ (vq y / vq z) * ((z.1 * (x.2 * y.2) : Int) : Rat) = b := by
  have h1 := cast_ne (b := x.2) (by omega)
  have h2 := cast_ne (b := y.2) (by omega)
  have h3 := cast_ne (b := z.1) (by omega)
  have h4 := cast_ne (b := z.2) (by omega)
  refine ⟨x.1 * (z.2 * y.2), y.1 * (z.2 * x.2), ?_, ?_⟩
  · rw [Rat.intCast_mul, Rat.intCast_mul, Rat.intCast_mul, Rat.intCast_mul]
    unfold vq
    grind
  · rw [Rat.intCast_mul, Rat.intCast_mul, Rat.intCast_mul, Rat.intCast_mul]
    unfold vq
    grind
theorem mid_whl {L : Int → Int → Rat} {lo m hi : Int} {u v : V2} {d k : Int} {a b : Int} (h1 : Whl d u) (h2 : Whl d v) (ha : (L m hi / L lo hi) * (k : Rat) = a) (hb : (L lo m / L lo hi) * (k : Rat) = b) : Whl (d * k) (mid L lo m hi u v) := by
  obtain ⟨x, y, e1, e2⟩ := h1
  obtain ⟨x', y', e3, e4⟩ := h2
  refine ⟨a * x + b * x', a * y + b * y', ?_, ?_⟩
  · rw [Rat.intCast_add, Rat.intCast_mul, Rat.intCast_mul, Rat.intCast_mul, ← e1, ← e3, ← ha, ← hb]
    unfold mid
    simp only
    grind
  · rw [Rat.intCast_add, Rat.intCast_mul, Rat.intCast_mul, Rat.intCast_mul, ← e2, ← e4, ← ha, ← hb]
    unfold mid
    simp only
    grind
theorem vq_lt {t b : Nat} {x : Int × Int} (h : F2 t b x) : vq x ≤ ((2 : Int) ^ t : Int) := by
  have h2 := cast_ne (b := x.2) (by have := h.low.pos; omega)
  have p2 : (0 : Rat) < (x.2 : Rat) := Rat.intCast_pos.mpr h.low.pos
  have e : vq x * (x.2 : Rat) = x.1 := by unfold vq; exact Rat.div_mul_cancel h2
  have q := h.qpos
  have l : (x.1 : Rat) ≤ (((2 : Int) ^ t : Int) : Rat) := Rat.intCast_le_intCast.mpr (Int.le_of_lt h.bt)
  have o : (1 : Rat) ≤ (x.2 : Rat) := by
    have : ((1 : Int) : Rat) ≤ (x.2 : Rat) := Rat.intCast_le_intCast.mpr (by have := h.low.pos; omega)
    exact this
  have m := Rat.mul_le_mul_of_nonneg_left o (Rat.le_of_lt q)
  grind
theorem vq_inv {t b : Nat} {x : Int × Int} (h : F2 t b x) : 1 / vq x ≤ ((2 : Int) ^ b : Int) := by
  have s : F2 b t (x.2, x.1) := ⟨h.low.pos, ⟨h.top, by have := h.low.one; rw [Nat.gcd_comm]; exact this⟩, h.bb, h.bt⟩
  have e : vq (x.2, x.1) = 1 / vq x := by
    have h2 := cast_ne (b := x.2) (by have := h.low.pos; omega)
    have h1 := cast_ne (b := x.1) (by have := h.top; omega)
    unfold vq
    simp only
    grind
  rw [← e]
  exact vq_lt s

theorem upto_mid {L : Int → Int → Rat} {lo m hi : Int} {u v : V2} {M A B : Rat} (h1 : Upto M u) (h2 : Upto M v) (p1 : 0 ≤ L m hi / L lo hi) (p2 : 0 ≤ L lo m / L lo hi) (a1 : L m hi / L lo hi ≤ A) (a2 : L lo m / L lo hi ≤ A) (hM : 0 ≤ M) (e : B = (A * M + A * M)) : Upto B (mid L lo m hi u v) := by
  obtain ⟨x1, x2, x3, x4⟩ := h1
  obtain ⟨y1, y2, y3, y4⟩ := h2
  have go : ∀ {s t : Rat}, 0 ≤ s → s ≤ M → 0 ≤ t → t ≤ A → 0 ≤ t * s ∧ t * s ≤ A * M := fun {s t} s0 s1 t0 t1 => by
    refine ⟨Rat.mul_nonneg t0 s0, Rat.le_trans (Rat.mul_le_mul_of_nonneg_left s1 t0) ?_⟩
    exact Rat.mul_le_mul_of_nonneg_right t1 hM
  have g1 := go x1 x2 p1 a1
  have g2 := go y1 y2 p2 a2
  have g3 := go x3 x4 p1 a1
  have g4 := go y3 y4 p2 a2
  unfold mid Upto
  simp only
  refine ⟨?_, ?_, ?_, ?_⟩ <;> grind
def depth : Tr → Nat
  | .lf => 0
  | .nd _ l r => max (depth l) (depth r) + 1
theorem depth_le {S : Int → Prop} : ∀ {T : Tr} {lo hi : Int}, TOk S lo hi T → (depth T : Int) + 1 ≤ hi - lo
  | .lf, lo, hi, h => by
    have := h.1
    show ((0 : Nat) : Int) + 1 ≤ hi - lo
    omega
  | .nd m l r, lo, hi, ⟨_, h1, h2⟩ => by
    have d1 := depth_le h1
    have d2 := depth_le h2
    have l1 := h1.lt
    have l2 := h2.lt
    show ((max (depth l) (depth r) + 1 : Nat) : Int) + 1 ≤ hi - lo
    omega
/-- the bounds of the places -/
structure Sized (d m : Nat) (v : V2) : Prop where
  whl : ∃ k : Int, 0 < k ∧ k < 2 ^ d ∧ Whl k v
  upto : Upto ((2 : Int) ^ m : Int) v
theorem vec_sized {f : Int × Int → Int × Int} {S : Int → Prop} {t b : Nat} : ∀ {T : Tr} {lo hi : Int} {u v : V2} {d m : Nat} {k : Int}, TOk S lo hi T → (∀ a c, tie lo hi T a c → F2 t b (f (a, c))) → 0 < k → k < 2 ^ d → Whl k u → Whl k v → Upto ((2 : Int) ^ m : Int) u → Upto ((2 : Int) ^ m : Int) v →
    ∀ z, Sized (d + depth T * (t + (b + b))) (m + depth T * (t + b + 1)) (vec (fun a c => vq (f (a, c))) lo hi T u v z)
  | .lf, lo, hi, u, v, d, m, k, h, hf, k0, k1, w1, w2, u1, u2, z => by
    show Sized (d + 0 * _) (m + 0 * _) (if z = lo then u else v)
    rw [Nat.zero_mul, Nat.zero_mul]
    by_cases e : z = lo
    · rw [if_pos e]; exact ⟨⟨k, k0, k1, w1⟩, u1⟩
    · rw [if_neg e]; exact ⟨⟨k, k0, k1, w2⟩, u2⟩
  | .nd x l r, lo, hi, u, v, d, m, k, ⟨_, h1, h2⟩, hf, k0, k1, w1, w2, u1, u2, z => by
    have fr := hf _ _ (tie_root (T := .nd x l r))
    have fa := hf x hi (.inr (.inr tie_root))
    have fb := hf lo x (.inr (.inl tie_root))
    obtain ⟨a, c, ea, ec⟩ := share_whl (x := f (x, hi)) (y := f (lo, x)) (z := f (lo, hi)) fa.low.pos fr.top fr.low.pos fb.low.pos
    have kp : 0 < (f (lo, hi)).1 * ((f (x, hi)).2 * (f (lo, x)).2) := Int.mul_pos fr.top (Int.mul_pos fa.low.pos fb.low.pos)
    have kb : (f (lo, hi)).1 * ((f (x, hi)).2 * (f (lo, x)).2) < 2 ^ (t + (b + b)) := pow2_mul fr.top (Int.mul_pos fa.low.pos fb.low.pos) fr.bt (pow2_mul fa.low.pos fb.low.pos fa.bb fb.bb)
    generalize (f (lo, hi)).1 * ((f (x, hi)).2 * (f (lo, x)).2) = q at *
    have wm := mid_whl (L := fun a c => vq (f (a, c))) (lo := lo) (m := x) (hi := hi) w1 w2 ea ec
    have kq0 : 0 < k * q := Int.mul_pos k0 kp
    have kq1 : k * q < 2 ^ (d + (t + (b + b))) := pow2_mul k0 kp k1 kb
    have inv := vq_inv fr
    have go : ∀ {y : Int × Int}, F2 t b y → 0 ≤ vq y / vq (f (lo, hi)) ∧ vq y / vq (f (lo, hi)) ≤ (((2 : Int) ^ (t + b) : Int) : Rat) := fun {y} hy => by
      refine ⟨Rat.le_of_lt (rdiv_pos hy.qpos fr.qpos), ?_⟩
      have e : vq y / vq (f (lo, hi)) = vq y * (1 / vq (f (lo, hi))) := by grind
      rw [e, Int.pow_add, Rat.intCast_mul]
      have p : (0 : Rat) ≤ 1 / vq (f (lo, hi)) := Rat.le_of_lt (rdiv_pos (by decide) fr.qpos)
      have p2 : (0 : Rat) ≤ (((2 : Int) ^ t : Int) : Rat) := Rat.intCast_nonneg.mpr (Int.le_of_lt (Int.pow_pos (by decide)))
      exact Rat.le_trans (Rat.mul_le_mul_of_nonneg_right (vq_lt hy) p) (Rat.mul_le_mul_of_nonneg_left inv p2)
    obtain ⟨a0, a1⟩ := go fa
    obtain ⟨b0, b1⟩ := go fb
    have hM : (0 : Rat) ≤ (((2 : Int) ^ m : Int) : Rat) := Rat.intCast_nonneg.mpr (Int.le_of_lt (Int.pow_pos (by decide)))
    have um : Upto ((2 : Int) ^ (m + (t + b + 1)) : Int) (mid (fun a c => vq (f (a, c))) lo x hi u v) := by
      refine upto_mid u1 u2 a0 b0 a1 b1 hM ?_
      rw [Int.pow_add, Int.pow_succ, Rat.intCast_mul, Rat.intCast_mul]
      have : ((2 : Int) : Rat) = 2 := rfl
      rw [this]
      grind
    have lM : (((2 : Int) ^ m : Int) : Rat) ≤ (((2 : Int) ^ (m + (t + b + 1)) : Int) : Rat) := Rat.intCast_le_intCast.mpr (ipow_le (by omega))
    have fin : ∀ {e : Nat} {y : V2}, e ≤ max (depth l) (depth r) → Sized (d + (t + (b + b)) + e * (t + (b + b))) (m + (t + b + 1) + e * (t + b + 1)) y → Sized (d + depth (.nd x l r) * (t + (b + b))) (m + depth (.nd x l r) * (t + b + 1)) y := fun {e y} he hs => by
      obtain ⟨⟨g, g0, g1, g2⟩, g3⟩ := hs
      have n1 : e * (t + (b + b)) ≤ max (depth l) (depth r) * (t + (b + b)) := Nat.mul_le_mul_right _ he
      have n2 : e * (t + b + 1) ≤ max (depth l) (depth r) * (t + b + 1) := Nat.mul_le_mul_right _ he
      have d1 : depth (.nd x l r) * (t + (b + b)) = max (depth l) (depth r) * (t + (b + b)) + (t + (b + b)) := Nat.succ_mul _ _
      have d2 : depth (.nd x l r) * (t + b + 1) = max (depth l) (depth r) * (t + b + 1) + (t + b + 1) := Nat.succ_mul _ _
      refine ⟨⟨g, g0, Int.lt_of_lt_of_le g1 (ipow_le (by omega)), g2⟩, g3.le (Rat.intCast_le_intCast.mpr (ipow_le (by omega)))⟩
    by_cases e : z ≤ x
    · rw [vec_left e]
      exact fin (Nat.le_max_left _ _) (vec_sized h1 (fun a c t => hf a c (.inr (.inl t))) kq0 kq1 (w1.mul q) wm (u1.le lM) um z)
    · rw [vec_right h1 h2 (by omega)]
      exact fin (Nat.le_max_right _ _) (vec_sized h2 (fun a c t => hf a c (.inr (.inr t))) kq0 kq1 wm (w2.mul q) um (u2.le lM) z)

/-! ### a cutting stands -/
structure Stands (n : Int) (l : List (Int × Int)) (f : Int × Int → Int × Int) (v : Int → V2) : Prop where
  on : ∀ q ∈ tiesS n l, vq (f q) = det (v q.1) (v q.2)
  pos : ∀ i j, 0 ≤ i → i < j → j < n → 0 < det (v i) (v j)
theorem tie_ties {n : Int} {l : List (Int × Int)} {T : Tr} (h3 : 3 ≤ n) (hT : TOk (inR n) 0 (n - 1) T) (hR : ∀ a b, (a, b) ∈ l ↔ tie 0 (n - 1) T a b ∧ a + 2 ≤ b ∧ ¬ (a = 0 ∧ b = n - 1)) (a b : Int) : tie 0 (n - 1) T a b ↔ (a, b) ∈ tiesS n l := by
  have e : (a, b) ∈ tiesS n l ↔ (a, b) ∈ sidesL n ++ l := sort2_mem
  rw [e, List.mem_append]
  constructor
  · intro t
    have q := tie_in hT t
    by_cases c : a + 2 ≤ b ∧ ¬ (a = 0 ∧ b = n - 1)
    · exact .inr ((hR a b).mpr ⟨t, c⟩)
    · refine .inl ?_
      unfold sidesL
      rw [List.mem_append, List.mem_map]
      by_cases c2 : a = 0 ∧ b = n - 1
      · exact .inr (by rw [c2.1, c2.2]; exact List.mem_singleton.mpr rfl)
      · refine .inl ⟨a, mem_rng.mpr (by omega), ?_⟩
        have : b = a + 1 := by omega
        rw [this]
  · rintro (z | z)
    · unfold sidesL at z
      rcases List.mem_append.mp z with z | z
      · obtain ⟨k, hk, ek⟩ := List.mem_map.mp z
        have hk := mem_rng.mp hk
        cases ek
        exact tie_adj hT ⟨by omega, by omega⟩ ⟨by omega, by omega⟩ ⟨by omega, by omega⟩ ⟨by omega, by omega⟩ (by omega) (fun z _ => by omega) (by omega) (by omega)
      · cases List.mem_singleton.mp z
        exact tie_root
    · exact ((hR a b).mp z).1
/-- every cutting stands, and the places are bounded -/
theorem stand {n : Int} {l : List (Int × Int)} {f : Int × Int → Int × Int} {t b : Nat} (hC : IsCut n l) (h12 : n ≤ 12) (hf : ∀ q ∈ tiesS n l, F2 t b (f q)) :
    ∃ v : Int → V2, Stands n l f v ∧ ∀ z, Sized (b + 10 * (t + (b + b))) (t + 10 * (t + b + 1)) (v z) := by
  obtain ⟨T, hT, hR⟩ := hC.ex
  have h3 := hC.three
  have tt := tie_ties h3 hT hR
  have hf' : ∀ a c, tie 0 (n - 1) T a c → F2 t b (f (a, c)) := fun a c k => hf _ ((tt a c).mp k)
  have fr := hf' _ _ (tie_root (T := T))
  have dl := depth_le hT
  have hd : det ((1, 0) : V2) ((0, vq (f (0, n - 1))) : V2) = vq (f (0, n - 1)) := by
    unfold det
    simp only
    grind
  refine ⟨vec (fun a c => vq (f (a, c))) 0 (n - 1) T (1, 0) (0, vq (f (0, n - 1))), ⟨fun q hq => ?_, fun i j h1 h2 h4 => ?_⟩, fun z => ?_⟩
  · exact (vec_tie (L := fun a c => vq (f (a, c))) hT (fun a c k => rpos_ne (hf' a c k).qpos) hd q.1 q.2 ((tt q.1 q.2).mpr hq)).symm
  · exact vec_pos (L := fun a c => vq (f (a, c))) hT (fun a c k => (hf' a c k).qpos) hd i j ⟨h1, by omega⟩ ⟨by omega, h4⟩ h1 h2 (by omega)
  · have one : (1 : Rat) ≤ (((2 : Int) ^ t : Int) : Rat) := by
      have : ((1 : Int) : Rat) ≤ (((2 : Int) ^ t : Int) : Rat) := Rat.intCast_le_intCast.mpr (Int.pow_pos (by decide))
      exact this
    have zr : ((0 : Int) : Rat) = 0 := rfl
    have w1 : Whl (f (0, n - 1)).2 ((1, 0) : V2) := ⟨(f (0, n - 1)).2, 0, by simp only; grind, by simp only; rw [zr]; grind⟩
    have w2 : Whl (f (0, n - 1)).2 ((0, vq (f (0, n - 1))) : V2) := ⟨0, (f (0, n - 1)).1, by simp only; rw [zr]; grind, by
      simp only
      unfold vq
      exact Rat.div_mul_cancel (cast_ne (by have := fr.low.pos; omega))⟩
    have zero : (0 : Rat) ≤ (((2 : Int) ^ t : Int) : Rat) := by grind
    have s := vec_sized (f := f) (m := t) hT hf' fr.low.pos fr.bb w1 w2 ⟨by decide, one, Rat.le_refl, zero⟩ ⟨Rat.le_refl, zero, Rat.le_of_lt fr.qpos, vq_lt fr⟩ z
    obtain ⟨⟨g, g0, g1, g2⟩, g3⟩ := s
    have n1 : depth T * (t + (b + b)) ≤ 10 * (t + (b + b)) := Nat.mul_le_mul_right _ (by omega)
    have n2 : depth T * (t + b + 1) ≤ 10 * (t + b + 1) := Nat.mul_le_mul_right _ (by omega)
    exact ⟨⟨g, g0, Int.lt_of_lt_of_le g1 (ipow_le (by omega)), g2⟩, g3.le (Rat.intCast_le_intCast.mpr (ipow_le (by omega)))⟩
/-- a length that stands is bounded by the places of its posts -/
theorem det_f2 {d m d' m' : Nat} {u v : V2} {x : Int × Int} (hu : Sized d m u) (hv : Sized d' m' v) (hx : Low x.1 x.2) (hp : 0 < det u v) (e : vq x = det u v) : F2 (m + m' + (d + d')) (d + d') x := by
  obtain ⟨⟨k, k0, k1, a, c, ea, ec⟩, u1, u2, u3, u4⟩ := hu
  obtain ⟨⟨k', k0', k1', a', c', ea', ec'⟩, v1, v2, v3, v4⟩ := hv
  have xp := hx.pos
  have x2 := cast_ne (b := x.2) (by omega)
  have xpq : (0 : Rat) < (x.2 : Rat) := Rat.intCast_pos.mpr xp
  have kk := Int.mul_pos k0 k0'
  have e1 : vq x * (x.2 : Rat) = x.1 := by unfold vq; exact Rat.div_mul_cancel x2
  have top : 0 < x.1 := by
    have h : (0 : Rat) < (x.1 : Rat) := by rw [← e1, e]; exact Rat.mul_pos hp xpq
    exact Rat.intCast_pos.mp h
  have eN : x.1 * (k * k') = x.2 * (a * c' - c * a') := by
    have h : ((x.1 * (k * k') : Int) : Rat) = ((x.2 * (a * c' - c * a') : Int) : Rat) := by
      rw [Rat.intCast_mul, Rat.intCast_mul, Rat.intCast_mul, Rat.intCast_sub, Rat.intCast_mul, Rat.intCast_mul, ← e1, e, ← ea, ← ec, ← ea', ← ec']
      unfold det
      grind
    exact Rat.intCast_inj.mp h
  have dv : x.2.natAbs ∣ (k * k').natAbs := by
    have h : x.2.natAbs ∣ x.1.natAbs * (k * k').natAbs := by
      rw [← Int.natAbs_mul, eN, Int.natAbs_mul]
      exact Nat.dvd_mul_right _ _
    have cp : Nat.Coprime x.2.natAbs x.1.natAbs := by
      have := hx.one
      rw [Nat.gcd_comm] at this
      exact this
    exact cp.dvd_of_dvd_mul_left h
  have le := Nat.le_of_dvd (by omega) dv
  have kb := pow2_mul k0 k0' k1 k1'
  have b2 : x.2 < 2 ^ (d + d') := by omega
  refine ⟨top, hx, ?_, b2⟩
  have M0 : (0 : Rat) ≤ (((2 : Int) ^ m : Int) : Rat) := Rat.intCast_nonneg.mpr (Int.le_of_lt (Int.pow_pos (by decide)))
  have M1 : (0 : Rat) < (((2 : Int) ^ m * 2 ^ m' : Int) : Rat) := Rat.intCast_pos.mpr (Int.mul_pos (Int.pow_pos (by decide)) (Int.pow_pos (by decide)))
  have l1 : det u v ≤ (((2 : Int) ^ m * 2 ^ m' : Int) : Rat) := by
    have q1 := Rat.mul_nonneg u3 v1
    have q2 := Rat.le_trans (Rat.mul_le_mul_of_nonneg_right u2 v3) (Rat.mul_le_mul_of_nonneg_left v4 M0)
    rw [Rat.intCast_mul]
    unfold det
    grind
  have l2 : (x.1 : Rat) ≤ (((2 : Int) ^ m * 2 ^ m' * x.2 : Int) : Rat) := by
    rw [← e1, e, Rat.intCast_mul]
    exact Rat.mul_le_mul_of_nonneg_right l1 (Rat.le_of_lt xpq)
  have l3 : x.1 ≤ (2 : Int) ^ m * 2 ^ m' * x.2 := Rat.intCast_le_intCast.mp l2
  have p0 : (0 : Int) < 2 ^ m * 2 ^ m' := Int.mul_pos (Int.pow_pos (by decide)) (Int.pow_pos (by decide))
  have l4 : (2 : Int) ^ m * 2 ^ m' * x.2 < 2 ^ (m + m' + (d + d')) := by
    rw [Int.pow_add 2 (m + m'), Int.pow_add 2 m]
    exact Int.mul_lt_mul_of_pos_left b2 p0
  omega
/-- a post may be stretched -/
theorem Sized.scale {d m t b : Nat} {v : V2} {x : Int × Int} (h : Sized d m v) (hx : F2 t b x) : Sized (d + b) (m + t) (vq x * v.1, vq x * v.2) := by
  obtain ⟨⟨k, k0, k1, a, c, ea, ec⟩, u1, u2, u3, u4⟩ := h
  have x2 := cast_ne (b := x.2) (by have := hx.low.pos; omega)
  have e1 : vq x * (x.2 : Rat) = x.1 := by unfold vq; exact Rat.div_mul_cancel x2
  have q := Rat.le_of_lt hx.qpos
  have go : ∀ {s : Rat}, 0 ≤ s → s ≤ (((2 : Int) ^ m : Int) : Rat) → 0 ≤ vq x * s ∧ vq x * s ≤ (((2 : Int) ^ (m + t) : Int) : Rat) := fun {s} s0 s1 => by
    refine ⟨Rat.mul_nonneg q s0, ?_⟩
    rw [Int.pow_add, Int.mul_comm, Rat.intCast_mul]
    have p2 : (0 : Rat) ≤ (((2 : Int) ^ t : Int) : Rat) := Rat.intCast_nonneg.mpr (Int.le_of_lt (Int.pow_pos (by decide)))
    exact Rat.le_trans (Rat.mul_le_mul_of_nonneg_right (vq_lt hx) s0) (Rat.mul_le_mul_of_nonneg_left s1 p2)
  refine ⟨⟨k * x.2, Int.mul_pos k0 hx.low.pos, pow2_mul k0 hx.low.pos k1 hx.bb, x.1 * a, x.1 * c, ?_, ?_⟩, (go u1 u2).1, (go u1 u2).2, (go u3 u4).1, (go u3 u4).2⟩
  · rw [Rat.intCast_mul, Rat.intCast_mul, ← e1, ← ea]
    simp only
    grind
  · rw [Rat.intCast_mul, Rat.intCast_mul, ← e1, ← ec]
    simp only
    grind
theorem det_scale (p q : Rat) (u v : V2) : det (p * u.1, p * u.2) (q * v.1, q * v.2) = p * q * det u v := by
  unfold det
  simp only
  grind
/-- behind a turning the cutting stands on the same places -/
theorem Stands.turn {n : Int} {l l' : List (Int × Int)} {f g : Int × Int → Int × Int} {v : Int → V2} {p : Int × Int} {m z : Int} {k : Nat} (h : Stands n l f v) (hC : IsCut n l) (hp : p ∈ l) (ar : Around n l p m z) (hz : 0 ≤ z ∧ z < n)
    (ties : ∀ q, q ∈ tiesS n l' ↔ (q ∈ tiesS n l ∧ q ≠ p) ∨ q = pr m z) (fr : ∀ q ∈ tiesS n l, Frac k (f q)) (off : ∀ q ∈ tiesS n l, q ≠ p → g q = f q) (on : g (pr m z) = acrV f p (pr m z)) : Stands n l' g v := by
  refine ⟨fun q hq => ?_, h.pos⟩
  rcases (ties q).mp hq with ⟨h1, h2⟩ | e
  · rw [off q h1 h2]
    exact h.on q h1
  subst e
  have hb := tie_bd hC (rope_tie hp)
  have a := ar
  have f1 := fr _ a.lm
  have f2 := fr _ a.hz
  have f3 := fr _ a.hm
  have f4 := fr _ a.lz
  have f5 := fr _ (rope_tie (n := n) hp)
  have n5 := vq_ne f5
  have low : ∀ {a c : Int}, a < c → pr a c ∈ tiesS n l → vq (f (pr a c)) = det (v a) (v c) := fun {a c} ac hq => by
    rw [h.on _ hq, pr_of_lt ac]
  have v5 := h.on _ (rope_tie (n := n) hp)
  have m0 := a.m0
  have m1 := a.m1
  have pl : pr m p.1 = pr p.1 m := pr_comm _ _
  rw [on]
  rcases a.out with o | o
  · have e : pr m z = (z, m) := by rw [pr_comm]; exact pr_of_lt (by omega)
    have w1 := low m0 a.lm
    have w2 : vq (f (pr p.2 z)) = det (v z) (v p.2) := by rw [pr_comm]; exact low (by omega) (by rw [pr_comm]; exact a.hz)
    have w3 : vq (f (pr p.2 m)) = det (v m) (v p.2) := by rw [pr_comm]; exact low m1 (by rw [pr_comm]; exact a.hm)
    have w4 : vq (f (pr p.1 z)) = det (v z) (v p.1) := by rw [pr_comm]; exact low o (by rw [pr_comm]; exact a.lz)
    rw [e]
    unfold acrV
    simp only
    rw [pr_comm z p.1, pr_comm m p.2, pr_comm z p.2, pr_comm m p.1, vq_div (addV_frac (mulV_frac f4 f3) (mulV_frac f2 f1)) f5, vq_add (mulV_frac f4 f3) (mulV_frac f2 f1), vq_mul f4 f3, vq_mul f2 f1, w1, w2, w3, w4]
    have P := pluecker (v z) (v p.1) (v m) (v p.2)
    rw [v5] at n5 ⊢
    generalize det (v z) (v m) = X at *
    rw [← P]
    grind
  · have e : pr m z = (m, z) := pr_of_lt (by omega)
    have w1 := low m0 a.lm
    have w2 : vq (f (pr p.2 z)) = det (v p.2) (v z) := low o a.hz
    have w3 : vq (f (pr p.2 m)) = det (v m) (v p.2) := by rw [pr_comm]; exact low m1 (by rw [pr_comm]; exact a.hm)
    have w4 : vq (f (pr p.1 z)) = det (v p.1) (v z) := low (by omega) a.lz
    rw [e]
    unfold acrV
    simp only
    rw [pr_comm z p.1, pr_comm m p.2, pr_comm z p.2, pr_comm m p.1, vq_div (addV_frac (mulV_frac f1 f2) (mulV_frac f3 f4)) f5, vq_add (mulV_frac f1 f2) (mulV_frac f3 f4), vq_mul f1 f2, vq_mul f3 f4, w1, w2, w3, w4]
    have P := pluecker (v p.1) (v m) (v p.2) (v z)
    rw [v5] at n5 ⊢
    generalize det (v m) (v z) = X at *
    have P2 : det (v p.1) (v m) * det (v p.2) (v z) + det (v m) (v p.2) * det (v p.1) (v z) = det (v p.1) (v p.2) * X := by rw [P]; grind
    rw [P2]
    grind

/-! ### over, with bounds of its own for tops and bottoms -/
def sp_overF (K : PySem.W.Frag) : Sp := fun vs H Q _ => ∃ (x y : V) (p q : Int × Int) (s t s' t' : Nat), vs = [x, y] ∧ PrAt K H x p ∧ PrAt K H y q ∧ F2 s t p ∧ F2 s' t' q ∧ 0 < s ∧ 0 < t ∧ 0 < s' ∧ 0 < t' ∧ s + t' ≤ 100000 ∧ t + s' ≤ 8990 ∧
  ∀ H' v, Same H H' → PrAt K H' v (divV p q) → Q v H'
theorem FD.other {H : Hp} {D d : Addr} {dom : List (Int × Int)} {f : Int × Int → Int × Int} {o x : HO} (h : FD K H D dom f) (hd : H d = some o) (ne : D ≠ d) (nt : ∀ ys, o ≠ .tup ys) : FD K (upd H d x) D dom f := by
  obtain ⟨⟨kvs, e, r⟩, nd, sm⟩ := h
  refine ⟨⟨kvs, by rw [upd_ne ne]; exact e, Ents.tups (fun t ys q => ?_) r⟩, nd, sm⟩
  rw [upd_ne (ne_of q hd (fun z => nt ys z.symm))]
  exact q

/-! ### fractions of any sign, told by their worth -/
def frq (r : Rat) : Int × Int := (r.num, (r.den : Int))
theorem frq_low (r : Rat) : Low (frq r).1 (frq r).2 := ⟨Int.natCast_pos.mpr r.den_pos, by show Nat.gcd r.num.natAbs ((r.den : Int)).natAbs = 1; rw [Int.natAbs_natCast]; exact r.reduced⟩
theorem vq_frq (r : Rat) : vq (frq r) = r := by
  show (r.num : Rat) / ((r.den : Int) : Rat) = r
  rw [← Rat.divInt_eq_div, Rat.num_divInt_den]
theorem frq_neg (r : Rat) : frq (-r) = (-(frq r).1, (frq r).2) := by
  unfold frq
  rw [Rat.neg_num, Rat.neg_den]
theorem frq_zero : frq 0 = (0, 1) := rfl
theorem frq_one : frq 1 = (1, 1) := rfl
theorem frq_vq {x : Int × Int} (h : Low x.1 x.2) : frq (vq x) = x := vq_inj (frq_low _) h (vq_frq _)
theorem frq_inj {a b : Rat} (h : frq a = frq b) : a = b := by rw [← vq_frq a, h, vq_frq]
structure Bq (t b : Nat) (r : Rat) : Prop where
  top : (frq r).1.natAbs < 2 ^ t
  bot : (frq r).2.natAbs < 2 ^ b
theorem Bq.more {t b t' b' : Nat} {r : Rat} (h : Bq t b r) (l1 : t ≤ t') (l2 : b ≤ b') : Bq t' b' r :=
  ⟨Nat.lt_of_lt_of_le h.top (Nat.pow_le_pow_right (by decide) l1), Nat.lt_of_lt_of_le h.bot (Nat.pow_le_pow_right (by decide) l2)⟩
theorem Bq.neg {t b : Nat} {r : Rat} (h : Bq t b r) : Bq t b (-r) := by
  refine ⟨?_, ?_⟩
  · rw [frq_neg, Int.natAbs_neg]; exact h.top
  · rw [frq_neg]; exact h.bot
theorem Bq.zero : Bq 1 1 0 := ⟨by rw [frq_zero]; decide, by rw [frq_zero]; decide⟩
theorem F2.bq {t b : Nat} {x : Int × Int} (h : F2 t b x) : Bq t b (vq x) := by
  refine ⟨?_, ?_⟩
  · rw [frq_vq h.low]; exact (natAbs_lt_pow h.top).mpr h.bt
  · rw [frq_vq h.low]; exact (natAbs_lt_pow h.low.pos).mpr h.bb
theorem low_div {t b : Int} (h : b ≠ 0) : lowI t b = frq ((t : Rat) / (b : Rat)) := vq_inj (lowI_ok h).1 (frq_low _) (by rw [vq_low h, vq_frq])
theorem bq_div {t b : Int} {s k : Nat} (h : b ≠ 0) (h1 : t.natAbs < 2 ^ s) (h2 : b.natAbs < 2 ^ k) : Bq s k ((t : Rat) / (b : Rat)) := by
  obtain ⟨L, e, e1, e2⟩ := lowI_ok (t := t) h
  rw [low_div h] at e1 e2
  exact ⟨Nat.lt_of_le_of_lt e2 h1, Nat.lt_of_le_of_lt e1 h2⟩
theorem q_at (r : Rat) : r = ((frq r).1 : Rat) / ((frq r).2 : Rat) := (vq_frq r).symm
theorem q_pos (r : Rat) : 0 < (frq r).2 := (frq_low r).pos
theorem q_ne (r : Rat) : ((frq r).2 : Rat) ≠ 0 := cast_ne (by have := q_pos r; omega)
theorem q_top {r : Rat} (h : r ≠ 0) : (frq r).1 ≠ 0 := fun e => h (by rw [q_at r, e]; show (0 : Rat) / _ = 0; grind)
theorem mul_at (a b : Rat) : a * b = (((frq a).1 * (frq b).1 : Int) : Rat) / (((frq a).2 * (frq b).2 : Int) : Rat) := by
  have h1 := q_at a
  have h2 := q_at b
  have n1 := q_ne a
  have n2 := q_ne b
  rw [Rat.intCast_mul, Rat.intCast_mul]
  generalize ((frq a).1 : Rat) = p at *
  generalize ((frq b).1 : Rat) = q at *
  generalize ((frq a).2 : Rat) = u at *
  generalize ((frq b).2 : Rat) = v at *
  subst h1; subst h2
  grind
theorem add_at (a b : Rat) : a + b = (((frq a).1 * (frq b).2 + (frq b).1 * (frq a).2 : Int) : Rat) / (((frq a).2 * (frq b).2 : Int) : Rat) := by
  have h1 := q_at a
  have h2 := q_at b
  have n1 := q_ne a
  have n2 := q_ne b
  rw [Rat.intCast_add, Rat.intCast_mul, Rat.intCast_mul, Rat.intCast_mul]
  generalize ((frq a).1 : Rat) = p at *
  generalize ((frq b).1 : Rat) = q at *
  generalize ((frq a).2 : Rat) = u at *
  generalize ((frq b).2 : Rat) = v at *
  subst h1; subst h2
  grind
theorem div_at {a b : Rat} (hb : b ≠ 0) : a / b = (((frq a).1 * (frq b).2 : Int) : Rat) / (((frq a).2 * (frq b).1 : Int) : Rat) := by
  have h1 := q_at a
  have h2 := q_at b
  have n1 := q_ne a
  have n2 := q_ne b
  have n3 := cast_ne (q_top hb)
  rw [Rat.intCast_mul, Rat.intCast_mul]
  generalize ((frq a).1 : Rat) = p at *
  generalize ((frq b).1 : Rat) = q at *
  generalize ((frq a).2 : Rat) = u at *
  generalize ((frq b).2 : Rat) = v at *
  subst h1; subst h2
  grind
theorem pos_mul (a b : Rat) : (frq a).2 * (frq b).2 ≠ 0 := by have := Int.mul_pos (q_pos a) (q_pos b); omega
theorem pos_div (a : Rat) {b : Rat} (h : b ≠ 0) : (frq a).2 * (frq b).1 ≠ 0 := fun e => by
  rcases Int.mul_eq_zero.mp e with z | z
  · have := q_pos a; omega
  · exact q_top h z
theorem mulV_q (a b : Rat) : mulV (frq a) (frq b) = frq (a * b) := by unfold mulV; rw [low_div (pos_mul a b), ← mul_at]
theorem addV_q (a b : Rat) : addV (frq a) (frq b) = frq (a + b) := by unfold addV; rw [low_div (pos_mul a b), ← add_at]
theorem divV_q (a : Rat) {b : Rat} (h : b ≠ 0) : divV (frq a) (frq b) = frq (a / b) := by unfold divV; rw [low_div (pos_div a h), ← div_at h]
theorem Bq.mul {s t s' t' : Nat} {a b : Rat} (h : Bq s t a) (k : Bq s' t' b) : Bq (s + s') (t + t') (a * b) := by
  rw [mul_at]
  exact bq_div (pos_mul a b) (lt_mul h.top k.top (Nat.le_refl _)) (lt_mul h.bot k.bot (Nat.le_refl _))
theorem Bq.div {s t s' t' : Nat} {a b : Rat} (h : Bq s t a) (k : Bq s' t' b) (n : b ≠ 0) : Bq (s + t') (t + s') (a / b) := by
  rw [div_at n]
  exact bq_div (pos_div a n) (lt_mul h.top k.bot (Nat.le_refl _)) (lt_mul h.bot k.top (Nat.le_refl _))
theorem Bq.add {s t s' t' m : Nat} {a b : Rat} (h : Bq s t a) (k : Bq s' t' b) (l1 : s + t' ≤ m) (l2 : s' + t ≤ m) : Bq (m + 1) (t + t') (a + b) := by
  rw [add_at]
  exact bq_div (pos_mul a b) (lt_add (a := m) (lt_mul h.top k.bot l1) (lt_mul k.top h.bot l2) (Nat.le_refl _)) (lt_mul h.bot k.bot (Nat.le_refl _))
/-- two fractions are handed in, told by their worth -/
def sp_binQ (K : PySem.W.Frag) (F : Rat → Rat → Rat) (G : Rat → Prop) : Sp := fun vs H Q _ => ∃ (x y : V) (a b : Rat), vs = [x, y] ∧ PrAt K H x (frq a) ∧ PrAt K H y (frq b) ∧ Bq 5000 4490 a ∧ Bq 5000 4490 b ∧ G b ∧
  ∀ H' v, Same H H' → PrAt K H' v (frq (F a b)) → Q v H'
/-- a length with the sign of its posts' order -/
def sp_signed (K : PySem.W.Frag) : Sp := fun vs H Q _ => ∃ (d : Addr) (a b : Int) (dom : List (Int × Int)) (f : Int × Int → Int × Int) (r : Rat), vs = [.ref d, .int a, .int b] ∧ FD K H d dom f ∧ pr a b ∈ dom ∧ a ≠ b ∧ f (pr a b) = frq (if a < b then r else -r) ∧
  ∀ H' v, Same H H' → PrAt K H' v (frq r) → Q v H'
/-! ### the law's places: told by the spreads W of the posts -/
def Wd (v : Int → V2) (i j : Int) : Rat := det (v i) (v j)
theorem Wd.neg (v : Int → V2) (i j : Int) : Wd v j i = -Wd v i j := by unfold Wd det; grind
theorem Wd.self (v : Int → V2) (i : Int) : Wd v i i = 0 := by unfold Wd det; grind
theorem Wd.pl (v : Int → V2) (a b c d : Int) : Wd v a c * Wd v b d = Wd v a b * Wd v c d + Wd v a d * Wd v b c := pluecker _ _ _ _
structure LawW (n : Int) (cut : List (Int × Int)) (f : Int × Int → Int × Int) (v : Int → V2) : Prop where
  on : ∀ q ∈ tiesS n cut, f q = frq (Wd v q.1 q.2)
  tb : ∀ q ∈ tiesS n cut, Bq 50 40 (Wd v q.1 q.2)
  pos : ∀ i j, 0 ≤ i → i < j → j < n → 0 < Wd v i j
  f2 : ∀ i j, 0 ≤ i → i < j → j < n → F2 1762 1002 (frq (Wd v i j))
theorem LawW.bd {n : Int} {cut : List (Int × Int)} {f : Int × Int → Int × Int} {v : Int → V2} (h : LawW n cut f v) {i j : Int} (i0 : 0 ≤ i) (i1 : i < n) (j0 : 0 ≤ j) (j1 : j < n) : Bq 1762 1002 (Wd v i j) := by
  rcases Int.lt_trichotomy i j with e | e | e
  · have := (h.f2 i j i0 e j1).bq
    rw [vq_frq] at this
    exact this
  · subst e
    rw [Wd.self]
    exact Bq.zero.more (by decide) (by decide)
  · have := (h.f2 j i j0 e i1).bq
    rw [vq_frq] at this
    rw [Wd.neg]
    exact this.neg
theorem LawW.ne {n : Int} {cut : List (Int × Int)} {f : Int × Int → Int × Int} {v : Int → V2} (h : LawW n cut f v) {i j : Int} (i0 : 0 ≤ i) (i1 : i < n) (j0 : 0 ≤ j) (j1 : j < n) (ij : i ≠ j) : Wd v i j ≠ 0 := by
  rcases Int.lt_or_lt_of_ne ij with e | e
  · exact rpos_ne (h.pos i j i0 e j1)
  · rw [Wd.neg]
    have := h.pos j i j0 e i1
    grind
theorem LawW.first {n : Int} {cut : List (Int × Int)} {f : Int × Int → Int × Int} {v : Int → V2} (h : LawW n cut f v) {z l0 l1 : Int} (z0 : 0 ≤ z) (z1 : z < n) (a0 : 0 ≤ l0) (b1 : l1 < n) (ab : l0 < l1) : Bq 2764 2764 (Wd v z l1 / Wd v l0 l1) :=
  ((h.bd z0 z1 (by omega) b1).div (h.bd a0 (by omega) (by omega) b1) (h.ne a0 (by omega) (by omega) b1 (by omega))).more (by decide) (by decide)
theorem stands_law {n : Int} {cut : List (Int × Int)} {f : Int × Int → Int × Int} {v : Int → V2} (hC : IsCut n cut) (h : Stands n cut f v) (hf : ∀ q ∈ tiesS n cut, F2 50 40 (f q)) (hv : ∀ z, Sized 501 380 (v z)) : LawW n cut f v := by
  refine ⟨fun q hq => ?_, fun q hq => ?_, h.pos, fun i j i0 ij jn => ?_⟩
  · have := h.on q hq
    show _ = frq (det (v q.1) (v q.2))
    rw [← this, frq_vq (hf q hq).low]
  · show Bq 50 40 (det (v q.1) (v q.2))
    rw [← h.on q hq]
    exact (hf q hq).bq
  · exact (det_f2 (hv i) (hv j) (frq_low _) (h.pos i j i0 ij jn) (vq_frq _)).more (by decide) (by decide)
theorem Sized.more {d m d' m' : Nat} {v : V2} (h : Sized d m v) (l1 : d ≤ d') (l2 : m ≤ m') : Sized d' m' v := by
  obtain ⟨⟨k, k0, k1, k2⟩, u⟩ := h
  exact ⟨⟨k, k0, Int.lt_of_lt_of_le k1 (ipow_le l1), k2⟩, u.le (Rat.intCast_le_intCast.mpr (ipow_le l2))⟩
/-- the two shares of a post between two others -/
theorem share_first {n : Int} {cut : List (Int × Int)} {f : Int × Int → Int × Int} {v : Int → V2} (h : LawW n cut f v) {p a b l0 l1 : Int} (a0 : 0 ≤ a) (a1 : a < n) (b0 : 0 ≤ b) (b1 : b < n) (ab : a ≠ b) (x0 : 0 ≤ l0) (x1 : l1 < n) (xl : l0 < l1) :
    (Wd v a l1 / Wd v l0 l1) * (Wd v p b / Wd v a b) + (Wd v b l1 / Wd v l0 l1) * (Wd v a p / Wd v a b) = Wd v p l1 / Wd v l0 l1 := by
  have n1 := h.ne a0 a1 b0 b1 ab
  have n2 := h.ne x0 (by omega) (by omega) x1 (by omega : l0 ≠ l1)
  have e : Wd v a l1 * Wd v p b + Wd v b l1 * Wd v a p = Wd v p l1 * Wd v a b := by unfold Wd det; grind
  generalize Wd v a l1 = A at *
  generalize Wd v p b = B at *
  generalize Wd v b l1 = C at *
  generalize Wd v a p = D at *
  generalize Wd v p l1 = E at *
  generalize Wd v a b = F at *
  generalize Wd v l0 l1 = G at *
  have e2 : A / G * (B / F) + C / G * (D / F) = (A * B + C * D) / (G * F) := by
    have := mne n2 n1
    grind
  rw [e2, e]
  have := mne n2 n1
  grind
theorem share_second {n : Int} {cut : List (Int × Int)} {f : Int × Int → Int × Int} {v : Int → V2} (h : LawW n cut f v) {p a b l0 : Int} (a0 : 0 ≤ a) (a1 : a < n) (b0 : 0 ≤ b) (b1 : b < n) (ab : a ≠ b) :
    Wd v l0 a * (Wd v p b / Wd v a b) + Wd v l0 b * (Wd v a p / Wd v a b) = Wd v l0 p := by
  have n1 := h.ne a0 a1 b0 b1 ab
  have e : Wd v l0 a * Wd v p b + Wd v l0 b * Wd v a p = Wd v l0 p * Wd v a b := by unfold Wd det; grind
  generalize Wd v l0 a = A at *
  generalize Wd v p b = B at *
  generalize Wd v l0 b = C at *
  generalize Wd v a p = D at *
  generalize Wd v l0 p = E at *
  generalize Wd v a b = F at *
  have e2 : A * (B / F) + C * (D / F) = (A * B + C * D) / F := by grind
  rw [e2, e]
  grind
/-- two places' spread is the spread of the posts -/
theorem spread_back {n : Int} {cut : List (Int × Int)} {f : Int × Int → Int × Int} {v : Int → V2} (h : LawW n cut f v) {i k l0 l1 : Int} (x0 : 0 ≤ l0) (x1 : l1 < n) (xl : l0 < l1) :
    (Wd v i l1 / Wd v l0 l1) * Wd v l0 k + -((Wd v k l1 / Wd v l0 l1) * Wd v l0 i) = Wd v i k := by
  have n2 := h.ne x0 (by omega) (by omega) x1 (by omega : l0 ≠ l1)
  have e : Wd v i l1 * Wd v l0 k - Wd v k l1 * Wd v l0 i = Wd v i k * Wd v l0 l1 := by unfold Wd det; grind
  generalize Wd v i l1 = A at *
  generalize Wd v l0 k = B at *
  generalize Wd v k l1 = C at *
  generalize Wd v l0 i = D at *
  generalize Wd v i k = E at *
  generalize Wd v l0 l1 = G at *
  have e2 : A / G * B + -(C / G * D) = (A * B - C * D) / G := by grind
  rw [e2, e]
  grind
theorem tie_adj0 {n : Int} {cut : List (Int × Int)} (h3 : 3 ≤ n) : TieAdj (tiesS n cut) (rng n) := by
  rintro a b ha hb ⟨ab, h⟩
  have a1 := mem_rng.mp ha
  have b1 := mem_rng.mp hb
  refine sort2_mem.mpr (List.mem_append.mpr (.inl ?_))
  unfold sidesL
  rw [List.mem_append]
  rcases h with h | h
  · refine .inl (List.mem_map.mpr ⟨a, mem_rng.mpr (by omega), ?_⟩)
    have := h (a + 1) (mem_rng.mpr (by omega))
    rw [show b = a + 1 by omega]
  · refine .inr (List.mem_singleton.mpr ?_)
    have h1 := h 0 (mem_rng.mpr (by omega))
    have h2 := h (n - 1) (mem_rng.mpr (by omega))
    rw [show a = 0 by omega, show b = n - 1 by omega]
theorem sgn_of {n : Int} {cut : List (Int × Int)} {f : Int × Int → Int × Int} {v : Int → V2} (h : LawW n cut f v) {a b : Int} (t : pr a b ∈ tiesS n cut) : f (pr a b) = frq (if a < b then Wd v a b else -Wd v a b) := by
  rw [h.on _ t]
  show frq (Wd v (min a b) (max a b)) = _
  by_cases e : a < b
  · rw [if_pos e, Int.min_eq_left (by omega), Int.max_eq_right (by omega)]
  · rw [if_neg e, Int.min_eq_right (by omega), Int.max_eq_left (by omega), Wd.neg]
theorem bq_of {n : Int} {cut : List (Int × Int)} {f : Int × Int → Int × Int} {v : Int → V2} (h : LawW n cut f v) {a b : Int} (t : pr a b ∈ tiesS n cut) : Bq 50 40 (Wd v a b) := by
  have := h.tb _ t
  have this : Bq 50 40 (Wd v (min a b) (max a b)) := this
  by_cases e : a < b
  · rw [Int.min_eq_left (by omega), Int.max_eq_right (by omega)] at this
    exact this
  · rw [Int.min_eq_right (by omega), Int.max_eq_left (by omega)] at this
    rw [Wd.neg]
    exact this.neg
theorem pr_bd {n : Int} {cut : List (Int × Int)} (hC : IsCut n cut) {a b : Int} (t : pr a b ∈ tiesS n cut) : 0 ≤ a ∧ a < n ∧ 0 ≤ b ∧ b < n ∧ a ≠ b := by
  have h : 0 ≤ min a b ∧ min a b < max a b ∧ max a b < n := tie_bd hC t
  omega

/-- the place of a post, as it stands in the law's dict -/
def Plc (K : PySem.W.Frag) (H : Hp) (v : Int → V2) (l0 l1 z : Int) (u : V) : Prop := ∃ (t : Addr) (a b : V), u = .ref t ∧ H t = some (.tup [a, b]) ∧ PrAt K H a (frq (Wd v z l1 / Wd v l0 l1)) ∧ PrAt K H b (frq (Wd v l0 z))
theorem Plc.tups {H H' : Hp} {v : Int → V2} {l0 l1 z : Int} {u : V} (s : TupS H H') (h : Plc K H v l0 l1 z u) : Plc K H' v l0 l1 z u := by
  obtain ⟨t, a, b, e, ht, ⟨x, ex, hx⟩, ⟨y, ey, hy⟩⟩ := h
  exact ⟨t, a, b, e, s _ _ ht, ⟨x, ex, s _ _ hx⟩, ⟨y, ey, s _ _ hy⟩⟩
def Plcs (K : PySem.W.Frag) (H : Hp) (D : Addr) (n : Int) (v : Int → V2) (l0 l1 : Int) : Prop := ∃ kvs : List (Key × V), H D = some (.dK kvs) ∧ ∀ z, 0 ≤ z → z < n → ∃ u, valV kvs (.inl z) = some u ∧ Plc K H v l0 l1 z u
theorem Plcs.mono {H H' : Hp} {D : Addr} {n : Int} {v : Int → V2} {l0 l1 : Int} (s : Same H H') (h : Plcs K H D n v l0 l1) : Plcs K H' D n v l0 l1 := by
  obtain ⟨kvs, e, h⟩ := h
  exact ⟨kvs, s _ _ e, fun z a b => let ⟨u, g, p⟩ := h z a b; ⟨u, g, p.tups (TupS.of s)⟩⟩
structure StS (K : PySem.W.Frag) (H0 H : Hp) (D q : Addr) (zs : List V) (ms : List Tri3) (v : Int → V2) (l0 l1 : Int) (m : Nat) (C : Int → Prop) : Prop where
  s : Same H0 H
  q : H q = some (.lst zs)
  t : TrL H zs ms
  f : ∃ kvs : List (Key × V), H D = some (.dK kvs) ∧ kvs.length ≤ m ∧ ∀ z, C z → ∃ u, valV kvs (.inl z) = some u ∧ Plc K H v l0 l1 z u
theorem StS.mono {H0 H H' : Hp} {D q : Addr} {zs : List V} {ms : List Tri3} {v : Int → V2} {l0 l1 : Int} {m : Nat} {C : Int → Prop} (h : StS K H0 H D q zs ms v l0 l1 m C) (s : Same H H') : StS K H0 H' D q zs ms v l0 l1 m C := by
  obtain ⟨kvs, e1, e2, e3⟩ := h.f
  exact ⟨h.s.trans s, s _ _ h.q, h.t.tups (TupS.of s), kvs, s _ _ e1, e2, fun z hz => let ⟨u, g, p⟩ := e3 z hz; ⟨u, g, p.tups (TupS.of s)⟩⟩
theorem StS.put {H0 H : Hp} {D q : Addr} {zs : List V} {ms : List Tri3} {v : Int → V2} {l0 l1 : Int} {m : Nat} {C : Int → Prop} {p : Int} {u : V} (h : StS K H0 H D q zs ms v l0 l1 m C) (h0 : H0 D = none) (hu : Plc K H v l0 l1 p u) :
    ∃ kvs : List (Key × V), H D = some (.dK kvs) ∧ kvs.length ≤ m ∧ StS K H0 (upd H D (.dK (putK kvs (.inl p) u))) D q zs ms v l0 l1 (m + 1) (fun z => C z ∨ z = p) := by
  obtain ⟨kvs, e1, e2, e3⟩ := h.f
  have ts : TupS H (upd H D (.dK (putK kvs (.inl p) u))) := fun t xs e => by
    rw [upd_ne (ne_of e e1 (fun z => nomatch z))]
    exact e
  refine ⟨kvs, e1, e2, same_put h.s h0, ?_, h.t.tups ts, _, upd_same, ?_, fun z hz => ?_⟩
  · rw [upd_ne (ne_of h.q e1 (fun z => nomatch z))]
    exact h.q
  · unfold putK
    split
    · rw [List.length_map]; omega
    · rw [List.length_append, List.length_singleton]; omega
  · rw [valV_put]
    by_cases e : z = p
    · subst e
      exact ⟨u, if_pos rfl, hu.tups ts⟩
    · rw [if_neg (fun k => e (Sum.inl.inj k))]
      obtain ⟨w, a, b⟩ := e3 z (hz.resolve_right e)
      exact ⟨w, a, b.tups ts⟩
theorem All2.rev {α β : Type} {R : α → β → Prop} {xs : List α} {ys : List β} (h : All2 R xs ys) : All2 R xs.reverse ys.reverse := by
  induction h with
  | nil => exact .nil
  | cons h _ ih =>
    rw [List.reverse_cons, List.reverse_cons]
    exact ih.app (.one h)
theorem ints_flat (l : List Int) : (l.map V.int).all flatV = true := by
  rw [List.all_map, List.all_eq_true]
  exact fun _ _ => rfl
theorem inV_ints (z : Int) (l : List Int) : inV (V.int z) (l.map V.int) = decide (z ∈ l) := by
  unfold inV
  rw [List.any_map, Bool.eq_iff_iff, List.any_eq_true, decide_eq_true_eq]
  constructor
  · rintro ⟨x, hx, e⟩
    have e : (x == z) = true := e
    rw [beq_iff_eq] at e
    exact e ▸ hx
  · intro h
    exact ⟨z, h, by show (z == z) = true; exact beq_self_eq_true z⟩
def sp_lstood (K : PySem.W.Frag) : Sp := fun vs H Q _ => ∃ (n : Int) (o d : Addr) (xs : List V) (es : List Tri3) (cut dom : List (Int × Int)) (f : Int × Int → Int × Int) (v : Int → V2), vs = [.int n, .ref o, .ref d] ∧ 3 ≤ n ∧ n ≤ 12 ∧ H o = some (.lst xs) ∧ TrL H xs es ∧ es.length ≤ 9 ∧ (∃ F, EarSeq (rng n) es F) ∧ IsCut n cut ∧ (∀ e ∈ es, earR e ∈ cut) ∧
  FD K H d dom f ∧ (∀ p, p ∈ dom ↔ p ∈ tiesS n cut) ∧ LawW n cut f v ∧ ∀ H' D l0 l1, Same H H' → H D = none → 0 ≤ l0 → l0 < l1 → l1 < n → Plcs K H' D n v l0 l1 → Q (.ref D) H'
/-! ### the ropes crossed from post to post, one behind the other -/
/-- two ropes of one plot, one behind the other -/
def Nx (t : Int × Int → Prop) (p q : Int × Int) : Prop := ∃ s c f, s ≠ c ∧ s ≠ f ∧ c ≠ f ∧ p = pr s c ∧ q = pr s f ∧ t (pr c f)
theorem Nx.symm {t : Int × Int → Prop} {p q : Int × Int} (h : Nx t p q) : Nx t q p := by
  obtain ⟨s, c, f, n1, n2, n3, e1, e2, k⟩ := h
  exact ⟨s, f, c, n2, n1, Ne.symm n3, e2, e1, by rw [pr_comm]; exact k⟩
theorem Nx.mono {t t' : Int × Int → Prop} {p q : Int × Int} (h : Nx t p q) (m : ∀ q, t q → t' q) : Nx t' p q := by
  obtain ⟨s, c, f, n1, n2, n3, e1, e2, k⟩ := h
  exact ⟨s, c, f, n1, n2, n3, e1, e2, m _ k⟩
def Linked (t : Int × Int → Prop) (L : List (Int × Int)) : Prop := ∀ i x y, L[i]? = some x → L[i + 1]? = some y → Nx t x y
theorem Linked.mono {t t' : Int × Int → Prop} {L : List (Int × Int)} (h : Linked t L) (m : ∀ q, t q → t' q) : Linked t' L := fun i x y h1 h2 => (h i x y h1 h2).mono m
theorem Linked.app {t : Int × Int → Prop} {L M : List (Int × Int)} (h : Linked t L) (k : Linked t M) (b : ∀ x y, L[L.length - 1]? = some x → M[0]? = some y → Nx t x y) : Linked t (L ++ M) := by
  intro i x y h1 h2
  by_cases c1 : i + 1 < L.length
  · rw [List.getElem?_append_left (by omega)] at h1
    rw [List.getElem?_append_left c1] at h2
    exact h i x y h1 h2
  · rw [List.getElem?_append_right (by omega)] at h2
    by_cases c2 : i + 1 = L.length
    · rw [List.getElem?_append_left (by omega)] at h1
      rw [show i = L.length - 1 by omega] at h1
      rw [show i + 1 - L.length = 0 by omega] at h2
      exact b x y h1 h2
    · rw [List.getElem?_append_right (by omega)] at h1
      rw [show i + 1 - L.length = (i - L.length) + 1 by omega] at h2
      exact k _ x y h1 h2
theorem Linked.rev {t : Int × Int → Prop} {L : List (Int × Int)} (h : Linked t L) : Linked t L.reverse := by
  intro i x y h1 h2
  have l2 := (List.getElem?_eq_some_iff.mp h2).1
  rw [List.length_reverse] at l2
  rw [List.getElem?_reverse (by omega)] at h1 h2
  have e : L.length - 1 - i = (L.length - 1 - (i + 1)) + 1 := by omega
  rw [e] at h1
  exact (h _ y x h2 h1).symm
theorem Linked.one {t : Int × Int → Prop} (q : Int × Int) : Linked t [q] := fun i x y _ h2 => by
  rw [List.getElem?_eq_none (by simp)] at h2
  cases h2
theorem Linked.nil {t : Int × Int → Prop} : Linked t [] := fun i x y h _ => by cases h
/-- z makes a plot with the rope -/
def Apex (t : Int × Int → Prop) (z : Int) (q : Int × Int) : Prop := t (pr z q.1) ∧ t (pr z q.2) ∧ z ≠ q.1 ∧ z ≠ q.2
theorem Apex.mono {t t' : Int × Int → Prop} {z : Int} {q : Int × Int} (h : Apex t z q) (m : ∀ q, t q → t' q) : Apex t' z q := ⟨m _ h.1, m _ h.2.1, h.2.2⟩
structure Walk (t : Int × Int → Prop) (a b : Int) (L : List (Int × Int)) : Prop where
  link : Linked t L
  fst : ∀ q, L[0]? = some q → Apex t a q
  lst : ∀ q, L[L.length - 1]? = some q → Apex t b q
  emp : L = [] → t (pr a b)
theorem Walk.mono {t t' : Int × Int → Prop} {a b : Int} {L : List (Int × Int)} (h : Walk t a b L) (m : ∀ q, t q → t' q) : Walk t' a b L := ⟨h.link.mono m, fun q e => (h.fst q e).mono m, fun q e => (h.lst q e).mono m, fun e => m _ (h.emp e)⟩
theorem Walk.rev {t : Int × Int → Prop} {a b : Int} {L : List (Int × Int)} (h : Walk t a b L) : Walk t b a L.reverse := by
  refine ⟨h.link.rev, fun q e => ?_, fun q e => ?_, fun e => ?_⟩
  · have l := (List.getElem?_eq_some_iff.mp e).1
    rw [List.length_reverse] at l
    rw [List.getElem?_reverse l] at e
    exact h.lst q (by rw [← e]; congr 1)
  · have l := (List.getElem?_eq_some_iff.mp e).1
    rw [List.length_reverse] at l
    rw [List.length_reverse, List.getElem?_reverse (by omega)] at e
    exact h.fst q (by rw [← e]; congr 1; omega)
  · rw [pr_comm]
    exact h.emp (by rw [← List.length_eq_zero_iff, ← List.length_reverse, e]; rfl)
abbrev tq (lo hi : Int) (T : Tr) (q : Int × Int) : Prop := tie lo hi T q.1 q.2
def cov : Int → Int → Tr → Int → List (Int × Int)
  | _, _, .lf, _ => []
  | lo, hi, .nd m l r, z => if lo < z ∧ z < hi then cov lo m l z ++ cov m hi r z ++ [(lo, hi)] else []
def path : Int → Int → Tr → Int → Int → List (Int × Int)
  | _, _, .lf, _, _ => []
  | lo, hi, .nd m l r, a, b => if a = lo ∧ b = hi then [] else if b ≤ m then path lo m l a b else if m ≤ a then path m hi r a b else cov lo m l a ++ (cov m hi r b).reverse
section
variable {S : Int → Prop}
theorem cov_out {T : Tr} {lo hi z : Int} (h : ¬ (lo < z ∧ z < hi)) : cov lo hi T z = [] := by
  cases T with
  | lf => rfl
  | nd m l r => exact if_neg h
theorem cov_mem : ∀ {T : Tr} {lo hi z : Int}, TOk S lo hi T → S z → ∀ q, q ∈ cov lo hi T z ↔ tq lo hi T q ∧ q.1 < z ∧ z < q.2
  | .lf, lo, hi, z, h, hz, q => by
    constructor
    · intro h; cases h
    · rintro ⟨⟨e1, e2⟩, h1, h2⟩
      exact absurd ⟨by omega, by omega⟩ (h.2 z hz)
  | .nd m l r, lo, hi, z, ⟨sm, h1, h2⟩, hz, q => by
    show q ∈ (if lo < z ∧ z < hi then _ else _) ↔ (_ ∨ _ ∨ _) ∧ _
    have l1 := h1.lt
    have l2 := h2.lt
    by_cases c : lo < z ∧ z < hi
    · rw [if_pos c, List.mem_append, List.mem_append, cov_mem h1 hz, cov_mem h2 hz, List.mem_singleton]
      constructor
      · rintro ((⟨t, w⟩ | ⟨t, w⟩) | e)
        · exact ⟨.inr (.inl t), w⟩
        · exact ⟨.inr (.inr t), w⟩
        · rw [e]; exact ⟨.inl ⟨rfl, rfl⟩, c⟩
      · rintro ⟨⟨e1, e2⟩ | t | t, w⟩
        · exact .inr (Prod.ext e1 e2)
        · exact .inl (.inl ⟨t, w⟩)
        · exact .inl (.inr ⟨t, w⟩)
    · rw [if_neg c]
      constructor
      · intro h; cases h
      · rintro ⟨⟨e1, e2⟩ | t | t, w1, w2⟩
        · exact absurd ⟨by omega, by omega⟩ c
        · have := tie_in h1 t
          exact absurd ⟨by omega, by omega⟩ c
        · have := tie_in h2 t
          exact absurd ⟨by omega, by omega⟩ c
theorem cov_in {T : Tr} {lo hi z : Int} (hT : TOk S lo hi T) (hz : S z) {q : Int × Int} (h : q ∈ cov lo hi T z) : lo ≤ q.1 ∧ q.1 < z ∧ z < q.2 ∧ q.2 ≤ hi := by
  obtain ⟨t, w1, w2⟩ := (cov_mem hT hz q).mp h
  have := tie_in hT t
  exact ⟨this.1, w1, w2, this.2.2⟩
theorem last_snoc {L : List (Int × Int)} {q x : Int × Int} (h : (L ++ [q])[(L ++ [q]).length - 1]? = some x) : x = q := by
  rw [List.length_append, List.length_singleton, Nat.add_sub_cancel, List.getElem?_concat_length] at h
  exact (Option.some.inj h).symm
theorem prl {x y : Int} (h : x < y) : pr x y = (x, y) := pr_of_lt h
theorem prg {x y : Int} (h : y < x) : pr x y = (y, x) := by rw [pr_comm]; exact pr_of_lt h
/-- the ties over a post, the innermost first -/
theorem cov_walk : ∀ {T : Tr} {lo hi z : Int}, TOk S lo hi T → S z → lo < z → z < hi → Linked (tq lo hi T) (cov lo hi T z) ∧ (∀ q, (cov lo hi T z)[0]? = some q → Apex (tq lo hi T) z q) ∧ (∃ L, cov lo hi T z = L ++ [(lo, hi)]) ∧ (cov lo hi T z).Pairwise (fun p q => p.2 - p.1 < q.2 - q.1)
  | .lf, lo, hi, z, h, hz, g1, g2 => absurd ⟨g1, g2⟩ (h.2 z hz)
  | .nd m l r, lo, hi, z, ⟨sm, h1, h2⟩, hz, g1, g2 => by
    have l1 := h1.lt
    have l2 := h2.lt
    have el : cov lo hi (.nd m l r) z = cov lo m l z ++ cov m hi r z ++ [(lo, hi)] := if_pos ⟨g1, g2⟩
    have ml : ∀ q, tq lo m l q → tq lo hi (.nd m l r) q := fun q t => .inr (.inl t)
    have mr : ∀ q, tq m hi r q → tq lo hi (.nd m l r) q := fun q t => .inr (.inr t)
    have tlm : tq lo hi (.nd m l r) (lo, m) := .inr (.inl tie_root)
    have tmh : tq lo hi (.nd m l r) (m, hi) := .inr (.inr tie_root)
    rw [el]
    rcases Int.lt_trichotomy z m with e | e | e
    · obtain ⟨a1, a2, ⟨L, a3⟩, a4⟩ := cov_walk h1 hz g1 e
      rw [cov_out (T := r) (by omega), List.append_nil]
      refine ⟨(a1.mono ml).app (.one _) fun x y hx hy => ?_, fun q hq => ?_, ⟨_, rfl⟩, ?_⟩
      · rw [a3] at hx
        have ex := last_snoc hx
        have ey : (lo, hi) = y := Option.some.inj hy
        subst ex; subst ey
        exact ⟨lo, m, hi, by omega, by omega, by omega, (prl l1).symm, (prl (by omega)).symm, by rw [prl l2]; exact tmh⟩
      · rw [a3] at hq a2
        rw [List.append_assoc] at hq
        refine (a2 q ?_).mono ml
        cases L with
        | nil => exact hq
        | cons x L => exact hq
      · rw [List.pairwise_append]
        refine ⟨a4, by simp, fun p hp q hq => ?_⟩
        rw [List.mem_singleton.mp hq]
        have := cov_in h1 hz hp
        simp only
        omega
    · subst e
      rw [cov_out (T := l) (by omega), cov_out (T := r) (by omega)]
      refine ⟨.one _, fun q hq => ?_, ⟨[], rfl⟩, by simp⟩
      have eq : (lo, hi) = q := Option.some.inj hq
      subst eq
      exact ⟨by rw [prg l1]; exact tlm, by rw [prl l2]; exact tmh, by simp only; omega, by simp only; omega⟩
    · obtain ⟨a1, a2, ⟨L, a3⟩, a4⟩ := cov_walk h2 hz e g2
      rw [cov_out (T := l) (by omega), List.nil_append]
      refine ⟨(a1.mono mr).app (.one _) fun x y hx hy => ?_, fun q hq => ?_, ⟨_, rfl⟩, ?_⟩
      · rw [a3] at hx
        have ex := last_snoc hx
        have ey : (lo, hi) = y := Option.some.inj hy
        subst ex; subst ey
        exact ⟨hi, m, lo, by omega, by omega, by omega, (prg l2).symm, (prg (by omega)).symm, by rw [prg l1]; exact tlm⟩
      · rw [a3] at hq a2
        rw [List.append_assoc] at hq
        refine (a2 q ?_).mono mr
        cases L with
        | nil => exact hq
        | cons x L => exact hq
      · rw [List.pairwise_append]
        refine ⟨a4, by simp, fun p hp q hq => ?_⟩
        rw [List.mem_singleton.mp hq]
        have := cov_in h2 hz hp
        simp only
        omega
/-- the rope crosses the way from a up to b -/
def Crs (q : Int × Int) (a b : Int) : Prop := (q.1 < a ∧ a < q.2 ∧ q.2 < b) ∨ (a < q.1 ∧ q.1 < b ∧ b < q.2)
theorem path_mem : ∀ {T : Tr} {lo hi a b : Int}, TOk S lo hi T → S a → S b → a < b → lo ≤ a → b ≤ hi → ∀ q, q ∈ path lo hi T a b ↔ tq lo hi T q ∧ Crs q a b
  | .lf, lo, hi, a, b, h, sa, sb, ab, h1, h2, q => by
    constructor
    · intro h; cases h
    · rintro ⟨⟨e1, e2⟩, c⟩
      unfold Crs at c
      omega
  | .nd m l r, lo, hi, a, b, ⟨sm, k1, k2⟩, sa, sb, ab, h1, h2, q => by
    have l1 := k1.lt
    have l2 := k2.lt
    show q ∈ (if a = lo ∧ b = hi then [] else if b ≤ m then path lo m l a b else if m ≤ a then path m hi r a b else cov lo m l a ++ (cov m hi r b).reverse) ↔ (_ ∨ _ ∨ _) ∧ _
    by_cases c1 : a = lo ∧ b = hi
    · rw [if_pos c1]
      constructor
      · intro h; cases h
      · rintro ⟨⟨e1, e2⟩ | t | t, c⟩
        · unfold Crs at c; omega
        · have := tie_in k1 t; unfold Crs at c; omega
        · have := tie_in k2 t; unfold Crs at c; omega
    · rw [if_neg c1]
      by_cases c2 : b ≤ m
      · rw [if_pos c2, path_mem k1 sa sb ab h1 c2]
        constructor
        · rintro ⟨t, c⟩; exact ⟨.inr (.inl t), c⟩
        · rintro ⟨⟨e1, e2⟩ | t | t, c⟩
          · unfold Crs at c; omega
          · exact ⟨t, c⟩
          · have := tie_in k2 t; unfold Crs at c; omega
      · rw [if_neg c2]
        by_cases c3 : m ≤ a
        · rw [if_pos c3, path_mem k2 sa sb ab c3 h2]
          constructor
          · rintro ⟨t, c⟩; exact ⟨.inr (.inr t), c⟩
          · rintro ⟨⟨e1, e2⟩ | t | t, c⟩
            · unfold Crs at c; omega
            · have := tie_in k1 t; unfold Crs at c; omega
            · exact ⟨t, c⟩
        · rw [if_neg c3, List.mem_append, List.mem_reverse, cov_mem k1 sa, cov_mem k2 sb]
          unfold Crs
          constructor
          · rintro (⟨t, w1, w2⟩ | ⟨t, w1, w2⟩)
            · have := tie_in k1 t; exact ⟨.inr (.inl t), by omega⟩
            · have := tie_in k2 t; exact ⟨.inr (.inr t), by omega⟩
          · rintro ⟨⟨e1, e2⟩ | t | t, c⟩
            · omega
            · have := tie_in k1 t; exact .inl ⟨t, by omega, by omega⟩
            · have := tie_in k2 t; exact .inr ⟨t, by omega, by omega⟩
/-- how far ahead, less how far behind -/
def keyR (n a : Int) (q : Int × Int) : Int := if q.1 < a then q.2 - q.1 - n else q.1 - q.2
theorem path_walk {n : Int} : ∀ {T : Tr} {lo hi a b : Int}, TOk S lo hi T → hi - lo < n → S a → S b → a < b → lo ≤ a → b ≤ hi → Walk (tq lo hi T) a b (path lo hi T a b) ∧ (path lo hi T a b).Pairwise (fun p q => keyR n a p < keyR n a q)
  | .lf, lo, hi, a, b, h, hn, sa, sb, ab, h1, h2 => by
    have e1 := h.2 a sa
    have e2 := h.2 b sb
    have ea : a = lo := by omega
    have eb : b = hi := by omega
    subst ea; subst eb
    refine ⟨⟨.nil, (fun q h => nomatch h), (fun q h => nomatch h), fun _ => ?_⟩, .nil⟩
    rw [prl ab]
    exact ⟨rfl, rfl⟩
  | .nd m l r, lo, hi, a, b, ⟨sm, k1, k2⟩, hn, sa, sb, ab, h1, h2 => by
    have l1 := k1.lt
    have l2 := k2.lt
    have ml : ∀ q, tq lo m l q → tq lo hi (.nd m l r) q := fun q t => .inr (.inl t)
    have mr : ∀ q, tq m hi r q → tq lo hi (.nd m l r) q := fun q t => .inr (.inr t)
    have tlm : tq lo hi (.nd m l r) (lo, m) := .inr (.inl tie_root)
    have tmh : tq lo hi (.nd m l r) (m, hi) := .inr (.inr tie_root)
    have tlh : tq lo hi (.nd m l r) (lo, hi) := .inl ⟨rfl, rfl⟩
    show Walk _ a b (if a = lo ∧ b = hi then [] else if b ≤ m then path lo m l a b else if m ≤ a then path m hi r a b else cov lo m l a ++ (cov m hi r b).reverse) ∧ List.Pairwise _ (if a = lo ∧ b = hi then [] else if b ≤ m then path lo m l a b else if m ≤ a then path m hi r a b else cov lo m l a ++ (cov m hi r b).reverse)
    by_cases c1 : a = lo ∧ b = hi
    · rw [if_pos c1]
      refine ⟨⟨.nil, (fun q h => nomatch h), (fun q h => nomatch h), fun _ => ?_⟩, .nil⟩
      rw [prl ab, c1.1, c1.2]
      exact tlh
    · rw [if_neg c1]
      by_cases c2 : b ≤ m
      · rw [if_pos c2]
        obtain ⟨w1, w2⟩ := path_walk (n := n) k1 (by omega) sa sb ab h1 c2
        exact ⟨w1.mono ml, w2⟩
      · rw [if_neg c2]
        by_cases c3 : m ≤ a
        · rw [if_pos c3]
          obtain ⟨w1, w2⟩ := path_walk (n := n) k2 (by omega) sa sb ab c3 h2
          exact ⟨w1.mono mr, w2⟩
        · rw [if_neg c3]
          by_cases ca : a = lo
          · subst ca
            rw [cov_out (T := l) (by omega), List.nil_append]
            obtain ⟨a1, a2, ⟨L, a3⟩, a4⟩ := cov_walk k2 sb (by omega) (by omega)
            have hw : Walk (tq a hi (.nd m l r)) b a (cov m hi r b) := by
              refine ⟨a1.mono mr, fun q hq => (a2 q hq).mono mr, fun q hq => ?_, fun e => ?_⟩
              · rw [a3] at hq
                have eq := last_snoc hq
                subst eq
                exact ⟨by rw [prl l1]; exact tlm, by rw [prl (by omega)]; exact tlh, by simp only; omega, by simp only; omega⟩
              · rw [a3] at e; simp at e
            refine ⟨hw.rev, ?_⟩
            rw [List.pairwise_reverse]
            refine a4.imp_of_mem fun {p q} hp hq h => ?_
            have hp := cov_in k2 sb hp
            have hq := cov_in k2 sb hq
            unfold keyR
            rw [if_neg (by omega), if_neg (by omega)]
            omega
          · obtain ⟨a1, a2, ⟨L, a3⟩, a4⟩ := cov_walk k1 sa (by omega) (by omega)
            by_cases cb : b = hi
            · subst cb
              rw [cov_out (T := r) (by omega), List.reverse_nil, List.append_nil]
              refine ⟨⟨a1.mono ml, fun q hq => (a2 q hq).mono ml, fun q hq => ?_, fun e => ?_⟩, a4.imp_of_mem fun {p q} hp hq h => ?_⟩
              · rw [a3] at hq
                have eq := last_snoc hq
                subst eq
                exact ⟨by rw [prg (by omega)]; exact tlh, by rw [prg l2]; exact tmh, by simp only; omega, by simp only; omega⟩
              · rw [a3] at e; simp at e
              · have hp := cov_in k1 sa hp
                have hq := cov_in k1 sa hq
                unfold keyR
                rw [if_pos (by omega), if_pos (by omega)]
                omega
            · obtain ⟨b1, b2, ⟨M, b3⟩, b4⟩ := cov_walk k2 sb (by omega) (by omega)
              have lc : 0 < (cov lo m l a).length := by rw [a3]; simp
              have lr : 0 < (cov m hi r b).length := by rw [b3]; simp
              refine ⟨⟨(a1.mono ml).app (b1.mono mr).rev fun x y hx hy => ?_, fun q hq => ?_, fun q hq => ?_, fun e => ?_⟩, ?_⟩
              · rw [a3] at hx
                have ex := last_snoc hx
                rw [b3, List.reverse_append] at hy
                have ey : (m, hi) = y := Option.some.inj hy
                subst ex; subst ey
                exact ⟨m, lo, hi, by omega, by omega, by omega, (prg l1).symm, (prl l2).symm, by rw [prl (by omega)]; exact tlh⟩
              · rw [List.getElem?_append_left lc] at hq
                exact (a2 q hq).mono ml
              · rw [List.length_append, List.length_reverse, List.getElem?_append_right (by omega), List.getElem?_reverse (by omega)] at hq
                rw [show (cov m hi r b).length - 1 - ((cov lo m l a).length + (cov m hi r b).length - 1 - (cov lo m l a).length) = 0 by omega] at hq
                exact (b2 q hq).mono mr
              · rw [a3] at e; simp at e
              · rw [List.pairwise_append]
                refine ⟨a4.imp_of_mem fun {p q} hp hq h => ?_, ?_, fun p hp q hq => ?_⟩
                · have hp := cov_in k1 sa hp
                  have hq := cov_in k1 sa hq
                  unfold keyR
                  rw [if_pos (by omega), if_pos (by omega)]
                  omega
                · rw [List.pairwise_reverse]
                  refine b4.imp_of_mem fun {p q} hp hq h => ?_
                  have hp := cov_in k2 sb hp
                  have hq := cov_in k2 sb hq
                  unfold keyR
                  rw [if_neg (by omega), if_neg (by omega)]
                  omega
                · have hp := cov_in k1 sa hp
                  have hq := cov_in k2 sb (List.mem_reverse.mp hq)
                  unfold keyR
                  rw [if_pos (by omega), if_neg (by omega)]
                  omega
end

/-! ### sorted(xs), the items tuples of any data -/
section
open PySem.W PySem.Calls
theorem each_refsD {β : Type} {R : V → β → Prop} : ∀ {xs : List V} {its : List Value} {bs : List β}, Vals xs its → All2 R xs bs → (∀ x b, R x b → ∃ t, x = V.ref t) → EachIs (fun u b => ∃ t, u = Value.ref t ∧ R (.ref t) b) its bs
  | _, _, _, .nil, .nil, _ => .nil
  | _, _, _, .cons (b := u) r t, .cons h t2, f => by
    obtain ⟨a, rfl⟩ := f _ _ h
    obtain rfl : u = Value.ref a := r
    exact .cons ⟨a, rfl, h⟩ (each_refsD t t2 f)
theorem each_valsD {β : Type} {R : V → β → Prop} : ∀ {out : List Value} {ps : List β}, EachIs (fun u p => ∃ b, u = Value.ref b ∧ R (.ref b) p) out ps → ∃ ys, Vals ys out ∧ All2 R ys ps
  | _, _, .nil => ⟨[], .nil, .nil⟩
  | _, _, .cons ⟨b, e, hb⟩ t => by
    obtain ⟨ys, h1, h2⟩ := each_valsD t
    subst e
    exact ⟨.ref b :: ys, .cons rfl h1, .cons hb h2⟩
def rSortD (K : PySem.W.Frag) : List V → Hp → VK → Prop := fun vs H Q => ∃ (a : Addr) (xs : List V) (β : Type) (bs : List β) (enc : β → PyData) (R : V → β → Prop), vs = [.ref a] ∧ SqL K H a xs ∧ All2 R xs bs ∧ (∀ x b, R x b → (∃ t, x = V.ref t) ∧ Dp K H x (enc b)) ∧
  (∀ b b', b ∈ bs → b' ∈ bs → PySem.W.alike (enc b) (enc b') = true) ∧ (∀ b ∈ bs, ∃ x r, enc b = .tuple (x :: r)) ∧ (∀ b ∈ bs, (enc b).depth ≤ 8) ∧
  ∀ (p : Addr) (ys : List V), H p = none → All2 R ys (bs.mergeSort (dataLe false enc)) → Q (.ref p) (upd H p (.lst ys))
theorem cr_sortedD {X : Cx} (hu : X.A.units + 64 < cLine) : CallR X (.builtin "sorted") (rSortD X.K) := by
  intro pins s σ H vs us Q I r h
  obtain ⟨a, xs, β, bs, enc, R, rfl, hs, hR, hRD, hal, htup, hdep, q⟩ := h
  obtain ⟨its, rv, hl, hz⟩ := I.list hs
  obtain ⟨u, rfl, ru⟩ := vals1 r
  obtain rfl : u = Value.ref a := ru
  have hE := each_refsD rv hR (fun x b h => (hRD x b h).1)
  have er : EachIs (fun v b => ∃ as, Reads s.heap v (enc b) as) its bs := hE.mono fun u b ⟨t, eu, hr⟩ => by
    subst eu
    exact Dp.reads I _ _ _ (hRD _ _ hr).2 rfl
  have hxl := hR.length
  refine sorted_data (R := fun u b => ∃ t, u = Value.ref t ∧ R (.ref t) b) hl.isList hE er ?_ (.inl fun d hd => ?_) (by rw [← hxl]; exact hz) (fun b hb => ?_) fun out hlen ho => ?_
  · intro d hd d' hd'
    obtain ⟨b, hb, rfl⟩ := List.mem_map.mp hd
    obtain ⟨b', hb', rfl⟩ := List.mem_map.mp hd'
    exact hal b b' hb hb'
  · obtain ⟨b, hb, rfl⟩ := List.mem_map.mp hd
    exact htup b hb
  · have := hdep b hb
    omega
  · obtain ⟨ys, h1, h2⟩ := each_valsD ho
    obtain ⟨n, hn⟩ := PyProof.Rows.sortedAll_at s.heap its out.toArray
    have hyl : ys.length ≤ sizeLine := by
      rw [h1.length, hlen, ← hxl]
      exact hz
    exact ⟨.ref (s.heap.objs.size + 1), upd H (s.heap.objs.size + 1) (.lst ys), I.laid (t' := s.toks) (fun b o e => PyProof.Rows.sortedAll_old e) (Nat.le_succ _) ⟨hyl, out, n, h1, hn⟩, rfl, q _ ys (I.hok.fresh (Nat.le_succ _)) h2⟩
end
/-! ### rows of a key and a rope, sorted -/
def KR := Int × (Int × Int)
def encK (x : KR) : PyData := .tuple [.int x.1, dat2 x.2]
def leK (x y : KR) : Prop := x.1 < y.1 ∨ (x.1 = y.1 ∧ le2 x.2 y.2)
instance (x y : KR) : Decidable (leK x y) := by unfold leK le2; infer_instance
theorem encK_le : PySem.W.dataLe false encK = fun x y => decide (leK x y) := by
  funext x y
  show (!PySem.W.dataLt (encK y) (encK x)) = _
  unfold encK
  have al2 : PySem.W.alike (dat2 y.2) (dat2 x.2) = true := by unfold dat2; simp [PySem.W.alike, PySem.W.alikeAll]
  rw [PySem.W.dataLt_pair (by simp [PySem.W.alike]) al2, dat2_eqv, PySem.W.dataLt_int]
  have e1 : PyData.eqv (.int y.1) (.int x.1) = decide (y.1 = x.1) := by
    rw [Bool.eq_iff_iff]
    simp [PyData.eqv]
  rw [e1]
  unfold dat2
  rw [PySem.W.dataLt_ii]
  by_cases h1 : y.1 = x.1
  · rw [if_pos (decide_eq_true h1)]
    by_cases h2 : y.2 = x.2
    · rw [if_pos (decide_eq_true h2)]
      symm
      rw [Bool.not_false, decide_eq_true_eq]
      unfold leK le2
      rw [h1, h2]
      omega
    · rw [if_neg (by simp [h2])]
      rw [← decide_not, decide_eq_decide]
      have h2' : ¬ (y.2.1 = x.2.1 ∧ y.2.2 = x.2.2) := fun e => h2 (Prod.ext e.1 e.2)
      unfold leK le2
      omega
  · rw [if_neg (by simp [h1])]
    rw [← decide_not, decide_eq_decide]
    unfold leK
    omega
theorem leK_trans {x y z : KR} (h : leK x y) (k : leK y z) : leK x z := by
  unfold leK le2 at *
  omega
theorem leK_total (x y : KR) : leK x y ∨ leK y x := by
  unfold leK le2
  omega
theorem sortK_eq {bs ks : List KR} (hp : bs.Perm ks) (hs : ks.Pairwise (fun x y => x.1 < y.1)) : bs.mergeSort (PySem.W.dataLe false encK) = ks := by
  rw [encK_le]
  have h1 := List.pairwise_mergeSort (le := fun x y => decide (leK x y)) (fun a b c h1 h2 => decide_eq_true (leK_trans (of_decide_eq_true h1) (of_decide_eq_true h2))) (fun a b => by
    rw [Bool.or_eq_true, decide_eq_true_eq, decide_eq_true_eq]
    exact leK_total a b) bs
  refine List.Perm.eq_of_pairwise (le := fun x y : KR => x.1 ≤ y.1) ?_ (h1.imp fun {x y} h => ?_) (hs.imp fun {x y} h => Int.le_of_lt h) ((List.mergeSort_perm _ _).trans hp)
  · intro x y hx hy h1 h2
    have e : x.1 = y.1 := Int.le_antisymm h1 h2
    have hx' : x ∈ ks := ((List.mergeSort_perm _ _).trans hp).mem_iff.mp hx
    obtain ⟨i, hi⟩ := List.getElem?_of_mem hx'
    obtain ⟨j, hj⟩ := List.getElem?_of_mem hy
    have li := (List.getElem?_eq_some_iff.mp hi)
    have lj := (List.getElem?_eq_some_iff.mp hj)
    obtain ⟨li, ei⟩ := li
    obtain ⟨lj, ej⟩ := lj
    rcases Nat.lt_trichotomy i j with c | c | c
    · have := List.pairwise_iff_getElem.mp hs i j li lj c
      rw [ei, ej] at this
      omega
    · subst c
      rw [hi] at hj
      exact Option.some.inj hj
    · have := List.pairwise_iff_getElem.mp hs j i lj li c
      rw [ei, ej] at this
      omega
  · have := of_decide_eq_true h
    unfold leK at this
    omega

/-! ### crossed: the ropes crossed, the nearest first -/
def relK (n a : Int) (q : Int × Int) : Int := min ((q.1 - a) % n) ((q.2 - a) % n) - max ((q.1 - a) % n) ((q.2 - a) % n)
theorem emod_up {n x : Int} (h0 : 0 ≤ x) (h1 : x < n) : x % n = x := Int.emod_eq_of_lt h0 h1
theorem emod_dn {n x : Int} (h0 : -n ≤ x) (h1 : x < 0) : x % n = x + n := by
  have e : x % n = (x + n) % n := (Int.add_emod_right _ _).symm
  rw [e, Int.emod_eq_of_lt (by omega) (by omega)]
theorem relK_up {n a b : Int} {q : Int × Int} (ab : a < b) (a0 : 0 ≤ a) (bn : b < n) (q0 : 0 ≤ q.1) (qn : q.2 < n) (h : Crs q a b) : relK n a q = keyR n a q := by
  unfold relK keyR
  rcases h with ⟨h1, h2, h3⟩ | ⟨h1, h2, h3⟩
  · rw [emod_dn (x := q.1 - a) (by omega) (by omega), emod_up (x := q.2 - a) (by omega) (by omega), if_pos h1]
    omega
  · rw [emod_up (x := q.1 - a) (by omega) (by omega), emod_up (x := q.2 - a) (by omega) (by omega), if_neg (by omega)]
    omega
theorem relK_dn {n a b : Int} {q : Int × Int} (ab : b < a) (b0 : 0 ≤ b) (an : a < n) (q0 : 0 ≤ q.1) (qn : q.2 < n) (h : Crs q b a) : relK n a q = -keyR n b q - n := by
  unfold relK keyR
  rcases h with ⟨h1, h2, h3⟩ | ⟨h1, h2, h3⟩
  · rw [emod_dn (x := q.1 - a) (by omega) (by omega), emod_dn (x := q.2 - a) (by omega) (by omega), if_pos h1]
    omega
  · rw [emod_dn (x := q.1 - a) (by omega) (by omega), emod_up (x := q.2 - a) (by omega) (by omega), if_neg (by omega)]
    omega
/-- the ropes crossed on the way from a to b -/
structure CrsL (n : Int) (l : List (Int × Int)) (a b : Int) (L : List (Int × Int)) : Prop where
  mem : ∀ q, q ∈ L ↔ q ∈ l ∧ crossI (a, b) q = true
  walk : Walk (· ∈ tiesS n l) a b L
  key : L.Pairwise (fun p q => relK n a p < relK n a q)
theorem crossI_crs {a b : Int} {q : Int × Int} (ab : a ≠ b) (hq : q.1 < q.2) : crossI (a, b) q = true ↔ Crs q (min a b) (max a b) := by
  obtain ⟨c, d⟩ := q
  unfold crossI Crs
  simp only at *
  by_cases e : c = a ∨ c = b ∨ d = a ∨ d = b
  · rw [if_pos e]
    constructor
    · intro h; cases h
    · intro h; omega
  · rw [if_neg e, decide_eq_true_eq, dec_ne]
    omega
theorem crs_list {n : Int} {l : List (Int × Int)} {a b : Int} (hC : IsCut n l) (a0 : 0 ≤ a) (an : a < n) (b0 : 0 ≤ b) (bn : b < n) (ab : a ≠ b) : ∃ L, CrsL n l a b L := by
  obtain ⟨T, hT, hR⟩ := hC.ex
  have h3 := hC.three
  have tt := tie_ties h3 hT hR
  have mt : ∀ q, tq 0 (n - 1) T q → q ∈ tiesS n l := fun q h => (tt q.1 q.2).mp h
  have core : ∀ {x y : Int}, x < y → 0 ≤ x → y < n → (∀ q, q ∈ path 0 (n - 1) T x y ↔ q ∈ l ∧ Crs q x y) ∧ Walk (· ∈ tiesS n l) x y (path 0 (n - 1) T x y) ∧ (path 0 (n - 1) T x y).Pairwise (fun p q => keyR n x p < keyR n x q) := fun {x y} xy x0 yn => by
    have hm := path_mem hT (a := x) (b := y) ⟨x0, by omega⟩ ⟨by omega, yn⟩ xy x0 (by omega)
    obtain ⟨w1, w2⟩ := path_walk (n := n) hT (by omega) (a := x) (b := y) ⟨x0, by omega⟩ ⟨by omega, yn⟩ xy x0 (by omega)
    refine ⟨fun q => ?_, w1.mono mt, w2⟩
    rw [hm]
    constructor
    · rintro ⟨t, c⟩
      have ti := tie_in hT t
      refine ⟨(hR q.1 q.2).mpr ⟨t, ?_, ?_⟩, c⟩
      · unfold Crs at c; omega
      · unfold Crs at c; omega
    · rintro ⟨h, c⟩
      exact ⟨((hR q.1 q.2).mp h).1, c⟩
  rcases Int.lt_or_lt_of_ne ab with h | h
  · obtain ⟨w1, w2, w3⟩ := core h a0 bn
    refine ⟨_, fun q => ?_, w2, w3.imp_of_mem fun {p q} hp hq hk => ?_⟩
    · rw [w1]
      constructor
      · rintro ⟨m, c⟩
        have := cut_lt hC m
        exact ⟨m, (crossI_crs ab (by omega)).mpr (by rw [Int.min_eq_left (by omega), Int.max_eq_right (by omega)]; exact c)⟩
      · rintro ⟨m, c⟩
        have := cut_lt hC m
        have c := (crossI_crs ab (by omega)).mp c
        rw [Int.min_eq_left (by omega), Int.max_eq_right (by omega)] at c
        exact ⟨m, c⟩
    · have hp := (w1 p).mp hp
      have hq := (w1 q).mp hq
      have p1 := cut_lt hC hp.1
      have q1 := cut_lt hC hq.1
      rw [relK_up h a0 bn p1.1 p1.2.2 hp.2, relK_up h a0 bn q1.1 q1.2.2 hq.2]
      exact hk
  · obtain ⟨w1, w2, w3⟩ := core h b0 an
    refine ⟨_, fun q => ?_, w2.rev, ?_⟩
    · rw [List.mem_reverse, w1]
      constructor
      · rintro ⟨m, c⟩
        have := cut_lt hC m
        exact ⟨m, (crossI_crs ab (by omega)).mpr (by rw [Int.min_eq_right (by omega), Int.max_eq_left (by omega)]; exact c)⟩
      · rintro ⟨m, c⟩
        have := cut_lt hC m
        have c := (crossI_crs ab (by omega)).mp c
        rw [Int.min_eq_right (by omega), Int.max_eq_left (by omega)] at c
        exact ⟨m, c⟩
    · rw [List.pairwise_reverse]
      refine w3.imp_of_mem fun {p q} hp hq hk => ?_
      have hp := (w1 p).mp hp
      have hq := (w1 q).mp hq
      have p1 := cut_lt hC hp.1
      have q1 := cut_lt hC hq.1
      rw [relK_dn h b0 an p1.1 p1.2.2 hp.2, relK_dn h b0 an q1.1 q1.2.2 hq.2]
      omega
theorem CrsL.nd {n : Int} {l L : List (Int × Int)} {a b : Int} (h : CrsL n l a b L) : L.Nodup := h.key.imp fun h e => by rw [e] at h; exact Int.lt_irrefl _ h
theorem CrsL.uniq {n : Int} {l L M : List (Int × Int)} {a b : Int} (h : CrsL n l a b L) (k : CrsL n l a b M) : L = M := by
  refine List.Perm.eq_of_pairwise (le := fun p q : Int × Int => relK n a p < relK n a q) (fun x y _ _ h1 h2 => by omega) h.key k.key ((List.perm_ext_iff_of_nodup h.nd k.nd).mpr fun q => ?_)
  rw [h.mem, k.mem]
/-- a key and a rope, as they stand in the row -/
def KAt (K : PySem.W.Frag) (H : Hp) (x : V) (k : KR) : Prop := ∃ t u, x = V.ref t ∧ H t = some (.tup [.int k.1, .ref u]) ∧ H u = some (.tup [.int k.2.1, .int k.2.2])
theorem KAt.dp {H : Hp} {x : V} {k : KR} (h : KAt K H x k) : (∃ t, x = V.ref t) ∧ Dp K H x (encK k) := by
  obtain ⟨t, u, e, h1, h2⟩ := h
  subst e
  exact ⟨⟨t, rfl⟩, .tup (.inl (.inl h1)) (.cons (.int _) (.cons (.tup (.inl (.inl h2)) (.cons (.int _) (.cons (.int _) .nil))) .nil))⟩
theorem KAt.tups {H H' : Hp} {x : V} {k : KR} (s : TupS H H') (h : KAt K H x k) : KAt K H' x k := by
  obtain ⟨t, u, e, h1, h2⟩ := h
  exact ⟨t, u, e, s _ _ h1, s _ _ h2⟩
def keyed (n a : Int) (q : Int × Int) : KR := (relK n a q, q)
def sp_crossed (K : PySem.W.Frag) : Sp := fun vs H Q _ => ∃ (n a b : Int) (c : Addr) (xs : List V) (l : List (Int × Int)), vs = [.int n, .ref c, .int a, .int b] ∧ n ≤ 12 ∧ H c = some (.lst xs) ∧ PrL K H xs l ∧ l.length ≤ 100 ∧ IsCut n l ∧ 0 ≤ a ∧ a < n ∧ 0 ≤ b ∧ b < n ∧ a ≠ b ∧
  ∀ H' r zs L, Same H H' → H r = none → H' r = some (.lst zs) → PrL K H' zs L → CrsL n l a b L → Q (.ref r) H'
theorem pi_tupK {X : Cx} {tg l : Expr} {tl : TE} (hK : X.K = K) (hl : PE X l tl) : PI X tg l (iTup K tl) := by
  subst hK
  exact pi_tup hl
/-! ### comprehensions with two clauses: zip ahead, a tuple within -/
theorem lc2_zip {K : PySem.W.Frag} {a b : Addr} {xs ys : List V} {g g1 : TG} {tt tt1 : TT} {wi1 : TI} {te : TE} {vs vs1 : List Nat} {σ : L2.St} {H1 : Hp} {D : Addr} {Qd : Hp → Prop} (Pv : Nat → Hp → Prop) (h0 : Pv 0 (upd H1 D (.lst []))) (hq : ∀ i H, Pv i H → SqL K H a xs ∧ SqL K H b ys)
    (hs : ∀ (i : Nat) (x y : V) (T : Addr) (H : Hp), xs[i]? = some x → ys[i]? = some y → Pv i H → H T = none → g (.ref T) (wipe σ vs) (upd H T (.tup [x, y])) fun σ2 H2 => wipe σ2 vs = wipe σ vs ∧ tt σ2 H2 fun b H3 =>
      if b = true then wi1 σ2 H3 fun J1 H4 => ∃ W1 : Nat → Nat → Hp → Prop, (∃ m, W1 0 m H4) ∧ ∀ j k H, W1 j k H →
        (J1.stop j H ∧ Pv (i + 1) H) ∨ (J1.go j H ∧ ∃ Nx1 : Hp → Prop, (∀ H', Nx1 H' → ∃ k', k' < k ∧ W1 (j + 1) k' H') ∧ ∀ x H', J1.yld j H x H' → g1 x (wipe σ2 vs1) H' fun σ3 H5 => wipe σ3 vs1 = wipe σ2 vs1 ∧ tt1 σ3 H5 fun b H6 =>
          if b = true then te σ3 H6 fun y H7 => ∃ acc, H7 D = some (.lst acc) ∧ acc.length < sizeLine ∧ Nx1 (upd H7 D (.lst (acc ++ [y]))) else Nx1 H6)
      else Pv (i + 1) H3) (hd : ∀ H, Pv (min xs.length ys.length) H → Qd H) :
    ∃ W : Nat → Nat → Hp → Prop, (∃ m, W 0 m (upd H1 D (.lst []))) ∧ ∀ i m H, W i m H →
      ((Itz K a b).stop i H ∧ Qd H) ∨ ((Itz K a b).go i H ∧ ∃ Nx : Hp → Prop, (∀ H', Nx H' → ∃ m', m' < m ∧ W (i + 1) m' H') ∧ ∀ x H', (Itz K a b).yld i H x H' → g x (wipe σ vs) H' fun σ2 H2 => wipe σ2 vs = wipe σ vs ∧ tt σ2 H2 fun b H3 =>
        if b = true then wi1 σ2 H3 fun J1 H4 => ∃ W1 : Nat → Nat → Hp → Prop, (∃ m, W1 0 m H4) ∧ ∀ j k H, W1 j k H →
          (J1.stop j H ∧ Nx H) ∨ (J1.go j H ∧ ∃ Nx1 : Hp → Prop, (∀ H', Nx1 H' → ∃ k', k' < k ∧ W1 (j + 1) k' H') ∧ ∀ x H', J1.yld j H x H' → g1 x (wipe σ2 vs1) H' fun σ3 H5 => wipe σ3 vs1 = wipe σ2 vs1 ∧ tt1 σ3 H5 fun b H6 =>
            if b = true then te σ3 H6 fun y H7 => ∃ acc, H7 D = some (.lst acc) ∧ acc.length < sizeLine ∧ Nx1 (upd H7 D (.lst (acc ++ [y]))) else Nx1 H6)
        else Nx H3) := by
  refine ⟨fun i m H => m = min xs.length ys.length - i ∧ i ≤ min xs.length ys.length ∧ Pv i H, ⟨min xs.length ys.length, by simp, Nat.zero_le _, h0⟩, ?_⟩
  rintro i m H ⟨rfl, hi, p⟩
  obtain ⟨qx, qy⟩ := hq i H p
  by_cases hlt : i < min xs.length ys.length
  · have lx : i < xs.length := by omega
    have ly : i < ys.length := by omega
    refine .inr ⟨⟨xs, ys, xs[i], ys[i], qx, qy, List.getElem?_eq_getElem lx, List.getElem?_eq_getElem ly⟩, Pv (i + 1), fun H' p' => ⟨min xs.length ys.length - (i + 1), by omega, rfl, by omega, p'⟩, ?_⟩
    rintro x H' ⟨T, x', y', rfl, hT, rfl, f1, f2⟩
    exact hs i x' y' T H (f1 xs qx) (f2 ys qy) p hT
  · have e : i = min xs.length ys.length := by omega
    subst e
    exact .inl ⟨⟨xs, ys, qx, qy, by omega⟩, hd H p⟩
theorem lc_intup {K : PySem.W.Frag} {a : Addr} {xs : List V} {g : TG} {tt : TT} {te : TE} {vs : List Nat} {σ : L2.St} {H1 : Hp} {D : Addr} {Nx : Hp → Prop} (Pv : Nat → Hp → Prop) (h0 : Pv 0 H1) (hl : ∀ i H, i ≤ xs.length → Pv i H → SqT K H a xs)
    (hs : ∀ i x H, xs[i]? = some x → Pv i H → g x (wipe σ vs) H fun σ2 H2 => wipe σ2 vs = wipe σ vs ∧ tt σ2 H2 fun b H3 =>
      if b = true then te σ2 H3 fun y H4 => ∃ acc, H4 D = some (.lst acc) ∧ acc.length < sizeLine ∧ Pv (i + 1) (upd H4 D (.lst (acc ++ [y]))) else Pv (i + 1) H3) (hd : ∀ H, Pv xs.length H → Nx H) :
    ∃ W1 : Nat → Nat → Hp → Prop, (∃ m, W1 0 m H1) ∧ ∀ j k H, W1 j k H →
      ((Itt K a).stop j H ∧ Nx H) ∨ ((Itt K a).go j H ∧ ∃ Nx1 : Hp → Prop, (∀ H', Nx1 H' → ∃ k', k' < k ∧ W1 (j + 1) k' H') ∧ ∀ x H', (Itt K a).yld j H x H' → g x (wipe σ vs) H' fun σ3 H5 => wipe σ3 vs = wipe σ vs ∧ tt σ3 H5 fun b H6 =>
        if b = true then te σ3 H6 fun y H7 => ∃ acc, H7 D = some (.lst acc) ∧ acc.length < sizeLine ∧ Nx1 (upd H7 D (.lst (acc ++ [y]))) else Nx1 H6) := by
  refine ⟨fun i m H => m = xs.length - i ∧ i ≤ xs.length ∧ Pv i H, ⟨xs.length, by simp, Nat.zero_le _, h0⟩, ?_⟩
  rintro i m H ⟨rfl, hi, p⟩
  have q := hl i H hi p
  by_cases hlt : i < xs.length
  · refine .inr ⟨⟨xs, xs[i], q, by simp [hlt]⟩, Pv (i + 1), fun H' p' => ⟨xs.length - (i + 1), by omega, rfl, hlt, p'⟩, fun x H' y => ?_⟩
    obtain ⟨e, y⟩ := y
    subst e
    exact hs i x _ (y xs q) p
  · have e : i = xs.length := by omega
    subst e
    exact .inl ⟨⟨xs, q, Nat.le_refl _⟩, hd H p⟩
/-! ### the posts beside the ropes crossed, on the far side -/
def farOf (p q : Int × Int) : Int := if q.1 = p.1 ∨ q.1 = p.2 then q.2 else q.1
def farL (L : List (Int × Int)) : List Int := List.zipWith farOf L (L.drop 1)
theorem nx_one {t : Int × Int → Prop} {p q : Int × Int} (h : Nx t p q) : ((q.1 = p.1 ∨ q.1 = p.2) ∧ ¬ (q.2 = p.1 ∨ q.2 = p.2)) ∨ (¬ (q.1 = p.1 ∨ q.1 = p.2) ∧ (q.2 = p.1 ∨ q.2 = p.2)) := by
  obtain ⟨s, c, f, n1, n2, n3, e1, e2, k⟩ := h
  subst e1; subst e2
  show ((min s f = min s c ∨ min s f = max s c) ∧ ¬ (max s f = min s c ∨ max s f = max s c)) ∨ (¬ (min s f = min s c ∨ min s f = max s c) ∧ (max s f = min s c ∨ max s f = max s c))
  omega
theorem filt_one {p q : Int × Int} (h : ((q.1 = p.1 ∨ q.1 = p.2) ∧ ¬ (q.2 = p.1 ∨ q.2 = p.2)) ∨ (¬ (q.1 = p.1 ∨ q.1 = p.2) ∧ (q.2 = p.1 ∨ q.2 = p.2))) : [q.1, q.2].filter (fun z => decide (¬ (z = p.1 ∨ z = p.2))) = [farOf p q] := by
  unfold farOf
  rcases h with ⟨h1, h2⟩ | ⟨h1, h2⟩
  · rw [if_pos h1, List.filter_cons, List.filter_cons, if_neg (by rw [decide_eq_true_eq]; exact fun n => n h1), if_pos (by rw [decide_eq_true_eq]; exact h2)]
    rfl
  · rw [if_neg h1, List.filter_cons, List.filter_cons, if_pos (by rw [decide_eq_true_eq]; exact h1), if_neg (by rw [decide_eq_true_eq]; exact fun n => n h2)]
    rfl
def sp_far (K : PySem.W.Frag) : Sp := fun vs H Q _ => ∃ (c : Addr) (b : Int) (xs : List V) (L : List (Int × Int)) (t : Int × Int → Prop), vs = [.ref c, .int b] ∧ H c = some (.lst xs) ∧ PrL K H xs L ∧ L.length ≤ 100 ∧ Linked t L ∧
  ∀ H' r, Same H H' → H r = none → H' r = some (.lst ((farL L ++ [b]).map V.int)) → Q (.ref r) H'
/-! ### across, laid -/
def sp_across (K : PySem.W.Frag) : Sp := fun vs H Q _ => ∃ (d : Addr) (x y : V) (dom : List (Int × Int)) (f : Int × Int → Int × Int) (p q : Int × Int), vs = [.ref d, x, y] ∧ PrAt K H x p ∧ PrAt K H y q ∧ FD K H d dom f ∧
  pr q.1 p.1 ∈ dom ∧ pr q.2 p.2 ∈ dom ∧ pr q.1 p.2 ∈ dom ∧ pr q.2 p.1 ∈ dom ∧ p ∈ dom ∧ F2 1800 1020 (f (pr q.1 p.1)) ∧ F2 1800 1020 (f (pr q.2 p.2)) ∧ F2 1800 1020 (f (pr q.1 p.2)) ∧ F2 1800 1020 (f (pr q.2 p.1)) ∧ F2 1800 1020 (f p) ∧
  ∀ H' v, Same H H' → PrAt K H' v (acrV f p q) → Q v H'
theorem sep_up {n a b s c f : Int} (ab : a < b) (a0 : 0 ≤ a) (bn : b < n) (s0 : 0 ≤ s) (sn : s < n) (c0 : 0 ≤ c) (cn : c < n) (f0 : 0 ≤ f) (fn : f < n) (n1 : s ≠ c) (n2 : s ≠ f) (n3 : c ≠ f) (h1 : Crs (pr s c) a b) (h2 : Crs (pr s f) a b) (hk : keyR n a (pr s c) < keyR n a (pr s f)) :
    Crs (pr s c) (min a f) (max a f) := by
  unfold Crs keyR pr at *
  simp only at *
  rcases Int.lt_or_lt_of_ne n1 with e1 | e1 <;> rcases Int.lt_or_lt_of_ne n2 with e2 | e2
  · rw [Int.min_eq_left (by omega), Int.max_eq_right (by omega)] at *
    rw [Int.min_eq_left (by omega : s ≤ f), Int.max_eq_right (by omega : s ≤ f)] at *
    split at hk <;> (try split at hk) <;> omega
  · rw [Int.min_eq_left (by omega : s ≤ c), Int.max_eq_right (by omega : s ≤ c)] at *
    rw [Int.min_eq_right (by omega : f ≤ s), Int.max_eq_left (by omega : f ≤ s)] at *
    split at hk <;> (try split at hk) <;> omega
  · rw [Int.min_eq_right (by omega : c ≤ s), Int.max_eq_left (by omega : c ≤ s)] at *
    rw [Int.min_eq_left (by omega : s ≤ f), Int.max_eq_right (by omega : s ≤ f)] at *
    split at hk <;> (try split at hk) <;> omega
  · rw [Int.min_eq_right (by omega : c ≤ s), Int.max_eq_left (by omega : c ≤ s)] at *
    rw [Int.min_eq_right (by omega : f ≤ s), Int.max_eq_left (by omega : f ≤ s)] at *
    split at hk <;> (try split at hk) <;> omega
theorem sep_dn {n a b s c f : Int} (ab : b < a) (b0 : 0 ≤ b) (an : a < n) (s0 : 0 ≤ s) (sn : s < n) (c0 : 0 ≤ c) (cn : c < n) (f0 : 0 ≤ f) (fn : f < n) (n1 : s ≠ c) (n2 : s ≠ f) (n3 : c ≠ f) (h1 : Crs (pr s c) b a) (h2 : Crs (pr s f) b a) (hk : keyR n b (pr s f) < keyR n b (pr s c)) :
    Crs (pr s c) (min a f) (max a f) := by
  unfold Crs keyR pr at *
  simp only at *
  rcases Int.lt_or_lt_of_ne n1 with e1 | e1 <;> rcases Int.lt_or_lt_of_ne n2 with e2 | e2
  · rw [Int.min_eq_left (by omega : s ≤ c), Int.max_eq_right (by omega : s ≤ c)] at *
    rw [Int.min_eq_left (by omega : s ≤ f), Int.max_eq_right (by omega : s ≤ f)] at *
    split at hk <;> (try split at hk) <;> omega
  · rw [Int.min_eq_left (by omega : s ≤ c), Int.max_eq_right (by omega : s ≤ c)] at *
    rw [Int.min_eq_right (by omega : f ≤ s), Int.max_eq_left (by omega : f ≤ s)] at *
    split at hk <;> (try split at hk) <;> omega
  · rw [Int.min_eq_right (by omega : c ≤ s), Int.max_eq_left (by omega : c ≤ s)] at *
    rw [Int.min_eq_left (by omega : s ≤ f), Int.max_eq_right (by omega : s ≤ f)] at *
    split at hk <;> (try split at hk) <;> omega
  · rw [Int.min_eq_right (by omega : c ≤ s), Int.max_eq_left (by omega : c ≤ s)] at *
    rw [Int.min_eq_right (by omega : f ≤ s), Int.max_eq_left (by omega : f ≤ s)] at *
    split at hk <;> (try split at hk) <;> omega

/-! ### reach: the lengths on the way -/
structure FWd (n : Int) (v : Int → V2) (dom : List (Int × Int)) (f : Int × Int → Int × Int) : Prop where
  on : ∀ q ∈ dom, 0 ≤ q.1 ∧ q.1 < q.2 ∧ q.2 < n ∧ f q = frq (Wd v q.1 q.2)
structure WdB (n : Int) (v : Int → V2) : Prop where
  pos : ∀ i j, 0 ≤ i → i < j → j < n → 0 < Wd v i j
  f2 : ∀ i j, 0 ≤ i → i < j → j < n → F2 1762 1002 (frq (Wd v i j))
theorem FWd.fr {n : Int} {v : Int → V2} {dom : List (Int × Int)} {f : Int × Int → Int × Int} (h : FWd n v dom f) (hB : WdB n v) {q : Int × Int} (hq : q ∈ dom) : F2 1800 1020 (f q) := by
  obtain ⟨a, b, c, e⟩ := h.on q hq
  rw [e]
  exact (hB.f2 _ _ a b c).more (by decide) (by decide)
theorem acr_wd {n : Int} {v : Int → V2} {dom : List (Int × Int)} {f : Int × Int → Int × Int} (h : FWd n v dom f) (hB : WdB n v) {p q : Int × Int} (hp : p ∈ dom) (hc : Crs p q.1 q.2) (hq : q.1 < q.2)
    (k1 : pr q.1 p.1 ∈ dom) (k2 : pr q.2 p.2 ∈ dom) (k3 : pr q.1 p.2 ∈ dom) (k4 : pr q.2 p.1 ∈ dom) : acrV f p q = frq (Wd v q.1 q.2) := by
  obtain ⟨p0, p1, p2, ep⟩ := h.on p hp
  have e1 := (h.on _ k1).2.2.2
  have e2 := (h.on _ k2).2.2.2
  have e3 := (h.on _ k3).2.2.2
  have e4 := (h.on _ k4).2.2.2
  have np := rpos_ne (hB.pos _ _ p0 p1 p2)
  unfold acrV
  rw [e1, e2, e3, e4, ep, mulV_q, mulV_q, addV_q, divV_q _ np]
  congr 1
  rcases hc with ⟨c1, c2, c3⟩ | ⟨c1, c2, c3⟩
  · rw [prg c1, prg c3, prl c2, prg (show p.1 < q.2 by omega)]
    simp only
    have P : Wd v p.1 p.2 * Wd v q.1 q.2 = Wd v p.1 q.1 * Wd v p.2 q.2 + Wd v q.1 p.2 * Wd v p.1 q.2 := by unfold Wd det; grind
    generalize Wd v p.1 q.1 * Wd v p.2 q.2 + Wd v q.1 p.2 * Wd v p.1 q.2 = N at *
    generalize Wd v p.1 p.2 = D at *
    generalize Wd v q.1 q.2 = X at *
    subst P
    grind
  · rw [prl c1, prl c3, prl (show q.1 < p.2 by omega), prg c2]
    simp only
    have P : Wd v p.1 p.2 * Wd v q.1 q.2 = Wd v q.1 p.1 * Wd v q.2 p.2 + Wd v q.1 p.2 * Wd v p.1 q.2 := by unfold Wd det; grind
    generalize Wd v q.1 p.1 * Wd v q.2 p.2 + Wd v q.1 p.2 * Wd v p.1 q.2 = N at *
    generalize Wd v p.1 p.2 = D at *
    generalize Wd v q.1 q.2 = X at *
    subst P
    grind
theorem farL_len (L : List (Int × Int)) : (farL L).length = L.length - 1 := by
  unfold farL
  rw [List.length_zipWith, List.length_drop]
  omega
theorem farL_at {L : List (Int × Int)} {i : Nat} {p q : Int × Int} (hp : L[i]? = some p) (hq : L[i + 1]? = some q) : (farL L)[i]? = some (farOf p q) := by
  unfold farL
  rw [List.getElem?_zipWith, hp, List.getElem?_drop, Nat.add_comm, hq]
theorem far_of_nx {t : Int × Int → Prop} {p q : Int × Int} (h : Nx t p q) : ∃ s c, s ≠ c ∧ s ≠ farOf p q ∧ c ≠ farOf p q ∧ p = pr s c ∧ q = pr s (farOf p q) ∧ t (pr c (farOf p q)) := by
  obtain ⟨s, c, f, n1, n2, n3, e1, e2, k⟩ := h
  have ef : farOf p q = f := by
    subst e1; subst e2
    show (if min s f = min s c ∨ min s f = max s c then max s f else min s f) = f
    split <;> omega
  rw [ef]
  exact ⟨s, c, n1, n2, n3, e1, e2, k⟩
/-- what a turn needs -/
theorem crs_turn {n : Int} {l L : List (Int × Int)} {a b : Int} (hC : IsCut n l) (hL : CrsL n l a b L) (a0 : 0 ≤ a) (an : a < n) (b0 : 0 ≤ b) (bn : b < n) (ab : a ≠ b) {i : Nat} {p : Int × Int} {z : Int} (hp : L[i]? = some p) (hz : (farL L ++ [b])[i]? = some z) :
    Crs p (min a z) (max a z) ∧ pr z p.1 ∈ tiesS n l ∧ pr z p.2 ∈ tiesS n l ∧ a ≠ z ∧ 0 ≤ z ∧ z < n := by
  have hpm := (hL.mem p).mp (List.mem_of_getElem? hp)
  have pl := cut_lt hC hpm.1
  have pc := (crossI_crs ab (by omega)).mp hpm.2
  have hil := (List.getElem?_eq_some_iff.mp hp).1
  have hfl := farL_len L
  by_cases c : i + 1 < L.length
  · have hq := List.getElem?_eq_getElem c
    generalize L[i + 1] = q at *
    rw [List.getElem?_append_left (by omega), farL_at hp hq] at hz
    obtain rfl := Option.some.inj hz
    obtain ⟨s, e, n1, n2, n3, e1, e2, kt⟩ := far_of_nx (hL.walk.link i p q hp hq)
    have hqm := (hL.mem q).mp (List.mem_of_getElem? hq)
    have ql := cut_lt hC hqm.1
    have qc := (crossI_crs ab (by omega)).mp hqm.2
    have hk : relK n a p < relK n a q := by
      obtain ⟨l1, g1⟩ := List.getElem?_eq_some_iff.mp hp
      obtain ⟨l2, g2⟩ := List.getElem?_eq_some_iff.mp hq
      have := List.pairwise_iff_getElem.mp hL.key i (i + 1) l1 l2 (by omega)
      rw [g1, g2] at this
      exact this
    generalize farOf p q = f at *
    have tf := tie_bd hC kt
    have bs : 0 ≤ s ∧ s < n ∧ 0 ≤ e ∧ e < n ∧ 0 ≤ f ∧ f < n := by
      rw [e1] at pl
      rw [e2] at ql
      have pl : 0 ≤ min s e ∧ min s e + 2 ≤ max s e ∧ max s e < n := pl
      have ql : 0 ≤ min s f ∧ min s f + 2 ≤ max s f ∧ max s f < n := ql
      omega
    have tq : pr f s ∈ tiesS n l := by rw [pr_comm, ← e2]; exact rope_tie hqm.1
    have te : pr f e ∈ tiesS n l := by rw [pr_comm]; exact kt
    have hcr : Crs p (min a f) (max a f) := by
      rcases Int.lt_or_lt_of_ne ab with h | h
      · rw [Int.min_eq_left (by omega), Int.max_eq_right (by omega)] at pc qc
        rw [relK_up h a0 bn pl.1 pl.2.2 pc, relK_up h a0 bn ql.1 ql.2.2 qc] at hk
        rw [e1, e2] at hk
        rw [e1] at pc ⊢
        rw [e2] at qc
        exact sep_up h a0 bn bs.1 bs.2.1 bs.2.2.1 bs.2.2.2.1 bs.2.2.2.2.1 bs.2.2.2.2.2 n1 n2 n3 pc qc hk
      · rw [Int.min_eq_right (by omega), Int.max_eq_left (by omega)] at pc qc
        rw [relK_dn h b0 an pl.1 pl.2.2 pc, relK_dn h b0 an ql.1 ql.2.2 qc] at hk
        rw [e1, e2] at hk
        rw [e1] at pc ⊢
        rw [e2] at qc
        exact sep_dn h b0 an bs.1 bs.2.1 bs.2.2.1 bs.2.2.2.1 bs.2.2.2.2.1 bs.2.2.2.2.2 n1 n2 n3 pc qc (by omega)
    refine ⟨hcr, ?_, ?_, fun e0 => ?_, bs.2.2.2.2.1, bs.2.2.2.2.2⟩
    · rw [e1]
      rcases pr_or s e with w | w <;> rw [w]
      · exact tq
      · exact te
    · rw [e1]
      rcases pr_or s e with w | w <;> rw [w]
      · exact te
      · exact tq
    · subst e0
      unfold Crs at hcr
      omega
  · rw [List.getElem?_append_right (by omega), show i - (farL L).length = 0 by omega] at hz
    have hz : b = z := Option.some.inj hz
    subst hz
    have ha := hL.walk.lst p (by rw [show L.length - 1 = i by omega]; exact hp)
    exact ⟨pc, ha.1, ha.2.1, ab, b0, bn⟩
/-- which lengths from a are known ahead of a turn -/
def Known (a b : Int) (L dom : List (Int × Int)) (i : Nat) : Prop := (∀ p, L[i]? = some p → pr a p.1 ∈ dom ∧ pr a p.2 ∈ dom) ∧ (L.length ≤ i → pr a b ∈ dom)
theorem known_zero {n : Int} {l L dom : List (Int × Int)} {a b : Int} (hL : CrsL n l a b L) (hd : ∀ q ∈ tiesS n l, q ∈ dom) : Known a b L dom 0 := by
  refine ⟨fun p hp => ?_, fun h => ?_⟩
  · have := hL.walk.fst p hp
    exact ⟨hd _ this.1, hd _ this.2.1⟩
  · exact hd _ (hL.walk.emp (List.length_eq_zero_iff.mp (by omega)))
theorem known_next {n : Int} {l L dom dom' : List (Int × Int)} {a b : Int} (hL : CrsL n l a b L) {i : Nat} {p : Int × Int} {z : Int} (h : Known a b L dom i) (hp : L[i]? = some p) (hz : (farL L ++ [b])[i]? = some z) (hs : ∀ q ∈ dom, q ∈ dom') (hn : pr a z ∈ dom') : Known a b L dom' (i + 1) := by
  have hil := (List.getElem?_eq_some_iff.mp hp).1
  have hfl := farL_len L
  have h1 := h.1 p hp
  refine ⟨fun q hq => ?_, fun hle => ?_⟩
  · have hql := (List.getElem?_eq_some_iff.mp hq).1
    rw [List.getElem?_append_left (by omega), farL_at hp hq] at hz
    obtain rfl := Option.some.inj hz
    obtain ⟨s, e, n1, n2, n3, e1, e2, kt⟩ := far_of_nx (hL.walk.link i p q hp hq)
    have hs' : pr a s ∈ dom' := by
      rw [e1] at h1
      rcases pr_or s e with w | w <;> rw [w] at h1
      · exact hs _ h1.1
      · exact hs _ h1.2
    generalize farOf p q = f at *
    rw [e2]
    rcases pr_or s f with w | w <;> rw [w]
    · exact ⟨hs', hn⟩
    · exact ⟨hn, hs'⟩
  · rw [List.getElem?_append_right (by omega), show i - (farL L).length = 0 by omega] at hz
    have hz : b = z := Option.some.inj hz
    subst hz
    exact hn
theorem nodup_sub_len : ∀ {l m : List (Int × Int)}, l.Nodup → (∀ x ∈ l, x ∈ m) → l.length ≤ m.length
  | [], _, _, _ => Nat.zero_le _
  | x :: l, m, hn, hs => by
    have hx := hs x (List.mem_cons_self ..)
    have h := nodup_sub_len (l := l) (m := m.erase x) (List.nodup_cons.mp hn).2 fun y hy => by
      have hne : y ≠ x := fun e => (List.nodup_cons.mp hn).1 (e ▸ hy)
      exact (List.mem_erase_of_ne hne).mpr (hs y (List.mem_cons_of_mem _ hy))
    rw [List.length_erase_of_mem hx] at h
    have := List.length_pos_of_mem hx
    rw [List.length_cons]
    omega
theorem fd_few {H : Hp} {a : Addr} {dom : List (Int × Int)} {f : Int × Int → Int × Int} (h : FD K H a dom f) : dom.length ≤ 169 := by
  refine nodup_sub_len (m := smallPs) h.nd fun p hp => ?_
  obtain ⟨a1, a2, b1, b2⟩ := h.sm p hp
  unfold smallPs
  rw [List.mem_map]
  refine ⟨p.1.toNat * 13 + p.2.toNat, List.mem_range.mpr (by omega), ?_⟩
  refine Prod.ext ?_ ?_
  · simp only; omega
  · simp only; omega
/-- all but the dict at F stands -/
def SameX (F : Addr) (H H' : Hp) : Prop := ∀ b o, b ≠ F → H b = some o → H' b = some o
theorem SameX.trans {F : Addr} {H H' H2 : Hp} (h : SameX F H H') (k : SameX F H' H2) : SameX F H H2 := fun b o hb e => k b o hb (h b o hb e)
theorem SameX.of {F : Addr} {H H' : Hp} (h : Same H H') : SameX F H H' := fun b o _ e => h b o e
theorem SameX.tups {F : Addr} {H H' : Hp} {o : HO} (h : SameX F H H') (e : H F = some o) (nt : ∀ ys, o ≠ .tup ys) : TupS H H' := fun t ys et => h t _ (fun z => by rw [z, e] at et; exact nt ys (Option.some.inj et)) et
theorem SameX.same {F : Addr} {H0 H H' : Hp} (s : Same H0 H) (h0 : H0 F = none) (h : SameX F H H') : Same H0 H' := fun b o e => h b o (ne_of_none e h0) (s b o e)
theorem for_zipM {K : PySem.W.Frag} {a b : Addr} {xs ys : List V} {g : TG} {tb : TS} {D : Ends} {σ : L2.St} {H : Hp} (Pv : Nat → L2.St → Hp → Prop) (h0 : Pv 0 σ H) (hq : ∀ i σ H, Pv i σ H → SqL K H a xs ∧ SqL K H b ys)
    (hs : ∀ (i : Nat) (x y : V) (T : Addr) (σ : L2.St) (H : Hp), xs[i]? = some x → ys[i]? = some y → Pv i σ H → H T = none → g (.ref T) σ (upd H T (.tup [x, y])) fun σ2 H2 => tb { D with nx := Pv (i + 1), ct := Pv (i + 1), bk := D.nx } σ2 H2) (hd : ∀ σ H, Pv (min xs.length ys.length) σ H → D.nx σ H) :
    ∃ W : Nat → Nat → L2.St → Hp → Prop, (∃ m, W 0 m σ H) ∧ ∀ i m σ H, W i m σ H →
      ((Itz K a b).stop i H ∧ D.nx σ H) ∨ ((Itz K a b).go i H ∧ ∃ N : L2.St → Hp → Prop, (∀ σ' H', N σ' H' → ∃ m', m' < m ∧ W (i + 1) m' σ' H') ∧ ∀ v H', (Itz K a b).yld i H v H' → g v σ H' fun σ2 H2 => tb { D with nx := N, ct := N, bk := D.nx } σ2 H2) := by
  refine ⟨fun i m σ H => m = min xs.length ys.length - i ∧ i ≤ min xs.length ys.length ∧ Pv i σ H, ⟨min xs.length ys.length, rfl, Nat.zero_le _, h0⟩, ?_⟩
  rintro i m σ H ⟨rfl, hi, p⟩
  obtain ⟨qx, qy⟩ := hq i σ H p
  by_cases hlt : i < min xs.length ys.length
  · have lx : i < xs.length := by omega
    have ly : i < ys.length := by omega
    refine .inr ⟨⟨xs, ys, _, _, qx, qy, List.getElem?_eq_getElem lx, List.getElem?_eq_getElem ly⟩, Pv (i + 1), fun σ' H' p' => ⟨min xs.length ys.length - (i + 1), by omega, rfl, by omega, p'⟩, fun v H' y => ?_⟩
    obtain ⟨T, x', y', rfl, hT, rfl, f1, f2⟩ := y
    exact hs i x' y' T σ H (f1 xs qx) (f2 ys qy) p hT
  · have e : i = min xs.length ys.length := by omega
    subst e
    exact .inl ⟨⟨xs, ys, qx, qy, by omega⟩, hd σ H p⟩
def sp_reach (K : PySem.W.Frag) : Sp := fun vs H Q _ => ∃ (n a b : Int) (F c : Addr) (xs : List V) (l dom : List (Int × Int)) (f : Int × Int → Int × Int) (v : Int → V2), vs = [.ref F, .int n, .ref c, .int a, .int b] ∧ n ≤ 12 ∧ H c = some (.lst xs) ∧ PrL K H xs l ∧ l.length ≤ 100 ∧ IsCut n l ∧ 0 ≤ a ∧ a < n ∧ 0 ≤ b ∧ b < n ∧ a ≠ b ∧
  FD K H F dom f ∧ FWd n v dom f ∧ WdB n v ∧ (∀ q ∈ tiesS n l, q ∈ dom) ∧
  ∀ H' dom' f', SameX F H H' → FD K H' F dom' f' → FWd n v dom' f' → (∀ q ∈ dom, q ∈ dom') → pr a b ∈ dom' → Q .non H'
def sp_needpost (C : Addr) : Sp := fun vs H Q E => ∃ n v : Int, vs = [.int n, .int v] ∧ (¬ (0 ≤ v ∧ v < n) → ∀ H', Same H H' → E (.ref C) none H') ∧ (0 ≤ v → v < n → Q .non H)
theorem ok_need_post (T : Env K mg) : FnOk P w K mg base (L2.CX P w) 1 T.a_need_post T.fd_need_post ["n", "post"] (sp_needpost T.C_NoPost) := by
  refine T.F_need_post.okX sc_need_post (fun vs H Q E h => ?_) (fun cdv A outer s H vs Q E hr h => ?_)
  · obtain ⟨n, v, rfl, _⟩ := h
    rfl
  · obtain ⟨n, v, rfl, k0, k1⟩ := h
    refine ⟨_, (pss_one (ps_if (pt_not (pt_chain op_le op_lt pe_int (pv 1) (pv 0)))
 (pss_one (ps_raise rfl (takes_of rfl rfl rfl rfl) (pmk_own PySem.F.excBase_ValueError T.x_NoPost T.c_NoPost T.k_NoPost (raises_own T.bs_NoPost T.ty_NoPost) rfl)))
 pss_nil)), ?_⟩
    refine ⟨_, rfl, _, _, rfl, rfl, _, rfl, ite2 (fun g0 => ?_) (fun g0 => ?_)⟩
    · have g0 := of_decide_eq_true g0
      refine ⟨_, rfl, _, _, rfl, rfl, _, rfl, ?_⟩
      show if (!decide (v < n)) = true then _ else _
      by_cases g1 : v < n
      · rw [decide_eq_true g1]
        refine iteF ?_
        exact k1 g0 g1
      · rw [decide_eq_false g1]
        refine iteT ?_
        exact k0 (fun h => g1 h.2) H (Same.refl _)
    · have g0 := nd g0
      refine ⟨_, rfl, ?_⟩
      show if true = true then _ else _
      refine iteT ?_
      exact k0 (fun h => g0 h.1) H (Same.refl _)

/-! ### need_two, measured -/
def good2 (n a b : Int) : Prop := 0 ≤ a ∧ a < n ∧ 0 ≤ b ∧ b < n ∧ a ≠ b
def sp_needtwo (C : Addr) : Sp := fun vs H Q E => ∃ n a b : Int, vs = [.int n, .int a, .int b] ∧ (¬ good2 n a b → ∀ H', Same H H' → E (.ref C) none H') ∧ (good2 n a b → Q .non H)
def sp_measured (K : PySem.W.Frag) (C : Addr) : Sp := fun vs H Q E => ∃ (n a b : Int) (c d : Addr) (xs : List V) (l dom : List (Int × Int)) (f : Int × Int → Int × Int) (v : Int → V2), vs = [.int n, .ref c, .ref d, .int a, .int b] ∧ n ≤ 12 ∧ H c = some (.lst xs) ∧ PrL K H xs l ∧ l.length ≤ 100 ∧ IsCut n l ∧
  FD K H d dom f ∧ (∀ p, p ∈ dom ↔ p ∈ tiesS n l) ∧ (∀ q ∈ tiesS n l, f q = frq (Wd v q.1 q.2)) ∧ WdB n v ∧ (¬ good2 n a b → ∀ H', Same H H' → E (.ref C) none H') ∧
  (good2 n a b → ∀ H' x, Same H H' → PrAt K H' x (frq (Wd v (pr a b).1 (pr a b).2)) → Q x H')
theorem new_no_tie {n : Int} {l : List (Int × Int)} {p : Int × Int} {x y : Int} (h : Turns n l p x y) : (x, y) ∉ tiesS n l := fun hm => by
  rcases List.mem_append.mp (sort2_mem.mp hm) with z | z
  · exact side_rope h.isC z ((h.mem _).mpr (.inr rfl))
  · exact h.new z
def laidF (f : Int × Int → Int × Int) (p : Int × Int) (x y : Int) : Int × Int → Int × Int := setF f (x, y) (acrV f p (x, y))
def sp_laid (K : PySem.W.Frag) (C : Addr) : Sp := fun vs H Q E => ∃ (n : Int) (c d : Addr) (xs : List V) (l dom : List (Int × Int)) (f : Int × Int → Int × Int) (a b : Int), vs = [.int n, .ref c, .ref d, .int a, .int b] ∧ 3 ≤ n ∧ n ≤ 12 ∧ H c = some (.lst xs) ∧ PrL K H xs l ∧ l.length ≤ 100 ∧ IsCut n l ∧
  FD K H d dom f ∧ (∀ p, p ∈ dom ↔ p ∈ tiesS n l) ∧ (∀ p ∈ tiesS n l, F2 1800 1020 (f p)) ∧ (pr a b ∉ l → ∀ H', Same H H' → E (.ref C) none H') ∧
  (pr a b ∈ l → ∀ x y, Turns n l (pr a b) x y → ∀ H' D, Same H H' → H D = none → FD K H' D ((dom.filter fun q => decide (q ≠ pr a b)) ++ [(x, y)]) (laidF f (pr a b) x y) → Q (.ref D) H')
theorem pss_dead {X : Cx} {ss : List Stmt} : PSs X ss (fun _ _ _ => False) := ⟨fun _ _ _ _ _ _ h => h.elim⟩

/-! ### is_part, is_length -/
def isPart (x : Int × Int) : Bool := decide (x.2 > 0) && decide (Nat.gcd x.1.natAbs x.2.natAbs = 1)
def isLen (x : Int × Int) : Bool := decide (x.1 > 0) && isPart x
theorem isLen_f2 {t b : Nat} {x : Int × Int} (h : F2 t b x) : isLen x = true := by
  unfold isLen isPart
  rw [decide_eq_true h.top, decide_eq_true h.low.pos, decide_eq_true h.low.one]
  rfl
def sp_ispart (K : PySem.W.Frag) (G : Int × Int → Bool) : Sp := fun vs H Q _ => ∃ (v : V) (x : Int × Int), vs = [v] ∧ PrAt K H v x ∧ Q (.bl (G x)) H
theorem ok_is_part (T : Env K mg) : FnOk P w K mg base CX0 1 T.a_is_part T.fd_is_part ["one"] (sp_ispart K isPart) := by
  refine T.F_is_part.ok sc_is_part (fun vs H Q E h => ?_) (fun cdv A outer s H vs Q E hr h => ?_)
  · obtain ⟨v, x, rfl, _⟩ := h
    rfl
  · obtain ⟨v, x, rfl, hx, q⟩ := h
    refine ⟨_, (pss_one (ps_ret (pe_and (pe_cmpR op_gt (pe_ix ix_tup (pv 0) pe_int (fun _ _ => rfl)) pe_int (nomark _)) (pe_one (pe_cmpR op_eq (pe_callBfun cr_gcd (by rfl) T.m_gcd (pa_cons (pe_ix ix_tup (pv 0) pe_int (fun _ _ => rfl)) (pa_cons (pe_ix ix_tup (pv 0) pe_int (fun _ _ => rfl)) pa_nil))) pe_int (nomark _)))))), ?_⟩
    obtain ⟨t, rfl, ht⟩ := hx.sq
    refine ⟨_, rfl, t, _, _, _, rfl, rfl, ht, atI_nat (j := 1) rfl, _, _, rfl, rfl, ?_⟩
    refine ⟨_, rfl, ?_⟩
    unfold isPart at q
    by_cases h : x.2 > 0
    · rw [decide_eq_true h] at q ⊢
      refine iteT ?_
      refine ⟨_, rfl, t, _, _, _, rfl, rfl, ht, atI_nat (j := 0) rfl, _, rfl, t, _, _, _, rfl, rfl, ht, atI_nat (j := 1) rfl, _, _, rfl, rfl, ?_⟩
      have e : decide (V.int ((Nat.gcd x.1.natAbs x.2.natAbs : Nat) : Int) = V.int 1) = decide (Nat.gcd x.1.natAbs x.2.natAbs = 1) := by
        rw [decide_eq_decide]
        exact ⟨fun e => by have := V.int.inj e; omega, fun e => by rw [e]; rfl⟩
      show Q (.bl (decide (V.int ((Nat.gcd x.1.natAbs x.2.natAbs : Nat) : Int) = V.int 1))) H
      rw [e]
      exact q
    · rw [decide_eq_false h] at q ⊢
      refine iteF ?_
      exact q
theorem ok_is_length (T : Env K mg) : FnOk P w K mg base CX0 2 T.a_is_length T.fd_is_length ["one"] (sp_ispart K isLen) := by
  refine T.F_is_length.ok sc_is_length (fun vs H Q E h => ?_) (fun cdv A outer s H vs Q E hr h => ?_)
  · obtain ⟨v, x, rfl, _⟩ := h
    rfl
  · obtain ⟨v, x, rfl, hx, q⟩ := h
    refine ⟨_, (pss_one (ps_ret (pe_and (pe_cmpR op_gt (pe_ix ix_tup (pv 0) pe_int (fun _ _ => rfl)) pe_int (nomark _)) (pe_one (pe_call (ok_is_part T) (hr.mono (by decide)) (by rfl) T.g_is_part T.F_is_part.kp T.b_is_part .nil pass0 (pa_cons (pv 0) pa_nil)))))), ?_⟩
    obtain ⟨t, rfl, ht⟩ := hx.sq
    refine ⟨_, rfl, t, _, _, _, rfl, rfl, ht, atI_nat (j := 0) rfl, _, _, rfl, rfl, ?_⟩
    refine ⟨_, rfl, ?_⟩
    unfold isLen at q
    by_cases h : x.1 > 0
    · rw [decide_eq_true h] at q ⊢
      refine iteT ?_
      exact ⟨_, rfl, .ref t, x, rfl, hx, q⟩
    · rw [decide_eq_false h] at q ⊢
      refine iteF ?_
      exact q

/-! ### a key that stands gets another value -/
theorem Ents.set {H H' : Hp} {kvs : List (List Key × V)} {dom : List (Int × Int)} {f : Int × Int → Int × Int} (h : Ents K H kvs dom f) (ts : TupS H H') (p x : Int × Int) (v : V) (hv : PrAt K H' v x) :
    Ents K H' (kvs.map fun kv => if kv.1 = pk p then (kv.1, v) else kv) dom (setF f p x) := by
  induction h with
  | nil => exact .nil
  | @cons kv q xs ys h _ ih =>
    refine .cons ?_ ih
    show (if kv.1 = pk p then (kv.1, v) else kv).1 = pk q ∧ PrAt K H' (if kv.1 = pk p then (kv.1, v) else kv).2 (setF f p x q)
    by_cases e : q = p
    · subst e
      rw [if_pos h.1]
      refine ⟨h.1, ?_⟩
      show PrAt K H' v (setF f q x q)
      unfold setF
      rw [if_pos rfl]
      exact hv
    · rw [if_neg (fun z => e (pk_inj (h.1.symm.trans z)))]
      refine ⟨h.1, ?_⟩
      show PrAt K H' kv.2 (setF f p x q)
      unfold setF
      rw [if_neg e]
      obtain ⟨t, e1, e2⟩ := h.2
      exact ⟨t, e1, ts _ _ e2⟩
theorem FD.set {H : Hp} {a : Addr} {dom : List (Int × Int)} {f : Int × Int → Int × Int} {kvs : List (List Key × V)} {v : V} {p x : Int × Int} (nd : dom.Nodup) (sm : ∀ p ∈ dom, smallP p) (e : H a = some (.dT kvs)) (h : Ents K H kvs dom f) (hp : p ∈ dom) (hv : PrAt K H v x) :
    FD K (upd H a (.dT (putK kvs (pk p) v))) a dom (setF f p x) := by
  obtain ⟨v0, g0, _⟩ := h.get hp
  have ep : putK kvs (pk p) v = kvs.map fun kv => if kv.1 = pk p then (kv.1, v) else kv := by
    unfold putK
    rw [valV_any, g0]
    rfl
  rw [ep]
  have ts : TupS H (upd H a (.dT (kvs.map fun kv => if kv.1 = pk p then (kv.1, v) else kv))) := fun t xs q => by
    rw [upd_ne (ne_of q e (fun z => nomatch z))]
    exact q
  obtain ⟨t, e1, e2⟩ := hv
  exact ⟨⟨_, upd_same, Ents.set h ts p x v ⟨t, e1, ts _ _ e2⟩⟩, nd, sm⟩

/-! ### the law's other lengths -/
def mulF (f : Int × Int → Int × Int) (p : Int) (x : Int × Int) : Int × Int → Int × Int := fun q => if p = q.1 ∨ p = q.2 then mulV (f q) x else f q
def sp_lstr (K : PySem.W.Frag) : Sp := fun vs H Q _ => ∃ (d : Addr) (v : V) (dom : List (Int × Int)) (f : Int × Int → Int × Int) (p : Int) (x : Int × Int), vs = [.ref d, .int p, v] ∧ FD K H d dom f ∧ PrAt K H v x ∧ (∀ q ∈ dom, Frac 1000 (f q)) ∧ Frac 1000 x ∧ dom.length ≤ 100 ∧
  ∀ H' D, Same H H' → H D = none → FD K H' D dom (mulF f p x) → Q (.ref D) H'
/-- what the law asks of the told fractions -/
def sp_parts (K : PySem.W.Frag) : Sp := fun vs H Q _ => ∃ (a b : Addr) (xs ys : List V) (l : List (Int × Int)), vs = [.ref a, .ref b] ∧ H a = some (.lst xs) ∧ H b = some (.lst ys) ∧ PrL K H xs l ∧ PrL K H ys l ∧ l.length ≤ 100 ∧ (∀ x ∈ l, Low x.1 x.2 ∧ x.2.natAbs.log2 < 9000) ∧ ∀ H', Same H H' → Q (.bl true) H'
theorem ok__law_parts (T : Env K mg) : FnOk P w K mg base CX0 4 T.a__law_parts T.fd__law_parts ["_law_found", "_law_due"] (sp_parts K) := by
  refine T.F__law_parts.ok sc__law_parts (fun vs H Q E h => ?_) (fun cdv A outer s H vs Q E hr h => ?_)
  · obtain ⟨a, b, xs, ys, l, rfl, _⟩ := h
    rfl
  · obtain ⟨a, b, xs, ys, l, rfl, ha, hb, hX, hY, hl, hlow, kk⟩ := h
    refine ⟨_, (pss_cons (ps_if (PW.pt (pw_or (pt_not (pt_val (pe_callB call_isi (by rfl) T.m_isinstance (by decide +kernel) (pa_cons (pv 0) (pa_cons (pe_bltn (v := .ty "list") (u := .type "list") (by rfl) T.m_list (by decide +kernel) rfl) pa_nil))))) (pw_or1 (pt_cmpR op_ne (pe_callB (id := "len") call_len_seq (by rfl) T.m_len (by decide +kernel) (pa_cons (pv 0) pa_nil)) (pe_callB (id := "len") call_len_seq (by rfl) T.m_len (by decide +kernel) (pa_cons (pv 1) pa_nil)) (nomark _)))))
 (pss_one (ps_ret pe_bl))
 pss_nil)
 (pss_cons (ps_for PassesOwn.never rfl (pi_range1 (by rfl) T.m_range (pa_cons (pe_callB (id := "len") call_len_seq (by rfl) T.m_len (by decide +kernel) (pa_cons (pv 1) pa_nil)) pa_nil)) (pg_name (i := 2) sc__law_parts.nd rfl (.inl rfl))
 (pss_one (ps_if (PW.pt (pw_or (pt_not (pt_val (pe_call (ok__law_part T) (hr.mono (by decide)) (by rfl) T.g__law_part T.F__law_part.kp T.b__law_part .nil pass0 (pa_cons (pe_ix ix_list (pv 0) (pv 2) (fun _ _ => rfl)) pa_nil)))) (pw_or1 (pt_cmpR (op_neP2 (by have h_ := hr.units; exact h_)) (pe_ix ix_list (pv 0) (pv 2) (fun _ _ => rfl)) (pe_ix ix_list (pv 1) (pv 2) (fun _ _ => rfl)) (nomark _)))))
 (pss_one (ps_ret pe_bl))
 pss_nil)))
 (pss_one (ps_ret pe_bl)))), ?_⟩
    have hxl := hX.length
    have hyl := hY.length
    refine ⟨_, rfl, _, _, _, _, _, rfl, .ty _, .base (.lst ha), kit_ty (by decide +kernel), true, rfl, ?_⟩
    show if false = true then _ else _
    rw [if_neg Bool.false_ne_true]
    refine ⟨_, rfl, a, xs, rfl, .inl (.inl (.inl ha)), _, rfl, b, ys, rfl, .inl (.inl (.inl hb)), rfl, _, rfl, iteNS (by rw [hxl, hyl]) ?_⟩
    refine ⟨_, rfl, _, _, rfl, .inl (.inl (.inl hb)), _, rfl, by omega, by omega, for_range (lo := 0) (n := ((ys.length : Nat) : Int).toNat) (fun i σ H' => ∃ y, σ = [some (.ref a), some (.ref b), y] ∧ Same H H') ⟨_, rfl, Same.refl _⟩ ?_ ?_⟩
    · rintro i σ H' hi ⟨y, rfl, s1⟩
      have hi' : i < l.length := by omega
      obtain ⟨u, eu, hu⟩ := hX.at' (List.getElem?_eq_getElem hi')
      obtain ⟨u, rfl, hu⟩ := hu
      obtain ⟨v, ev, hv⟩ := hY.at' (List.getElem?_eq_getElem hi')
      have lo := hlow _ (List.getElem_mem hi')
      have eu2 : atI xs (0 + (i : Int)) = some (.ref u) := by rw [Int.zero_add]; exact atI_nat eu
      have ev2 : atI ys (0 + (i : Int)) = some v := by rw [Int.zero_add]; exact atI_nat ev
      refine ⟨_, rfl, _, rfl, a, _, _, _, rfl, rfl, .inl (.inl (s1 _ _ ha)), eu2, u, _, _, rfl, s1 _ _ hu, lo.1, lo.2, fun H4 s4 => ⟨true, rfl, iteF ?_⟩⟩
      have s14 := s1.trans s4
      refine ⟨_, rfl, _, rfl, a, _, _, _, rfl, rfl, .inl (.inl (s14 _ _ ha)), eu2, _, rfl, _, rfl, b, _, _, _, rfl, rfl, .inl (.inl (s14 _ _ hb)), ev2, l[i], l[i], ⟨u, rfl, s14 _ _ hu⟩, PrAt.mono s14 hv, _, rfl, ?_⟩
      show if (!decide (l[i] = l[i])) = true then _ else _
      rw [decide_eq_true rfl]
      refine iteF ?_
      exact ⟨_, rfl, s14⟩
    · rintro σ H' ⟨y, rfl, s1⟩
      exact kk H' s1

/-! ### stretched -/
def sp_stretched (K : PySem.W.Frag) (C1 C2 : Addr) : Sp := fun vs H Q E => ∃ (n : Int) (d : Addr) (v : V) (p : Int) (dom : List (Int × Int)) (f : Int × Int → Int × Int) (x : Int × Int), vs = [.int n, .ref d, .int p, v] ∧ FD K H d dom f ∧ PrAt K H v x ∧ (∀ q ∈ dom, Frac 2000 (f q)) ∧ (isLen x = true → Frac 2000 x) ∧
  (¬ (0 ≤ p ∧ p < n) → ∀ H', Same H H' → E (.ref C1) none H') ∧ (0 ≤ p ∧ p < n → isLen x = false → ∀ H', Same H H' → E (.ref C2) none H') ∧
  (0 ≤ p ∧ p < n → isLen x = true → ∀ H' D, Same H H' → H D = none → FD K H' D dom (mulF f p x) → Q (.ref D) H')
/-! ### len(set(xs)), xs a list of pairs -/
theorem pl_keys {H : Hp} : ∀ {xs : List V} {l : List (Int × Int)}, PrL K H xs l → ∃ ks : List (Addr × List Int), xs = ks.map (fun p => V.ref p.1) ∧ ks.map (·.2) = l.map (fun p => [p.1, p.2]) ∧ ∀ p ∈ ks, SqT K H p.1 (p.2.map V.int)
  | _, _, .nil => ⟨[], rfl, rfl, fun _ h => by cases h⟩
  | _, _, .cons ⟨t, e, ht⟩ r => by
    obtain ⟨ks, h1, h2, h3⟩ := pl_keys r
    subst e
    refine ⟨(t, _) :: ks, by rw [h1]; rfl, by rw [List.map_cons, List.map_cons, h2], fun p hp => ?_⟩
    rcases List.mem_cons.mp hp with e | e
    · rw [e]; exact .inl (.inl ht)
    · exact h3 p e
theorem two_nodup {l : List (Int × Int)} : (l.map fun p => [p.1, p.2]).Nodup ↔ l.Nodup := by
  constructor
  · exact fun h => List.Pairwise.of_map _ (fun _ _ hne e => hne (by rw [e])) h
  · exact fun h => List.pairwise_map.mpr (h.imp fun {a b} (hne : a ≠ b) e => hne (Prod.ext (List.cons.inj e).1 (List.cons.inj (List.cons.inj e).2).1))
def tLenSet2 (K : PySem.W.Frag) (ta : TE) : TE := fun σ H Q => ta σ H fun x H1 => ∃ (l : Addr) (xs : List V) (ps : List (Int × Int)), x = V.ref l ∧ SqL K H1 l xs ∧ PrL K H1 xs ps ∧ ps.length < 64 ∧ ∀ m : Nat, (m = ps.length ↔ ps.Nodup) → Q (.int m) H1
section
variable {X : Cx}
theorem pe_lenSet2 {a : Expr} {ta : TE} {p p2 q pos : Pos} (hc : X.calm = true) (hu : X.A.units + 64 < cLine) (hg : Gl X "len") (hm : X.mg "len" = none) (hg2 : Gl X "set") (hm2 : X.mg "set" = none) (ha : PE X a ta)
    (na : starEach [a] X.env = (false, eval a X.env) :: starEach [] X.env := by rfl) : PE X (.Call (.Name "len" p) [.Call (.Name "set" p2) [a] [] q] [] pos) (tLenSet2 X.K ta) := by
  refine ⟨fun pins s σ H Q I h => ?_⟩
  refine Call_ (ld_blt I hg hm PySem.boot_len (callWith_builtin1 (args_cons (Call_ (ld_blt I hg2 hm2 boot_set (callWith_type1 (args_cons (thn (ha.run pins s σ H _ I h) fun v s1 ⟨x, H1, I1, r1, q1⟩ => args_nil ?_) na) na))) rfl) rfl rfl))
  obtain ⟨l, xs, ps, rfl, hq, hP, hl, q1⟩ := q1
  cases r1
  obtain ⟨ks, rfl, hk2, hk3⟩ := pl_keys hP
  obtain ⟨its, rv, pl, hz⟩ := I1.list hq
  have hkl : ks.length = ps.length := by
    have := congrArg List.length hk2
    rwa [List.length_map, List.length_map] at this
  refine L2.call_set_tups (P := X.prog) (w := X.w) ks (I1.ok.hd hc) pl.isList (by simpa using L2.refs_of_vals rv) (fun p hp => I1.isT (hk3 p hp)) (by omega) (by omega) fun h' tk L es ep t R g k => args_nil ?_
  have I2 : Inv X pins σ H1 { s1 with heap := h', toks := tk } := I1.kept k
  obtain ⟨o, ho, hex, hd⟩ := R.ob
  have hsz : es.size = L.length := by
    have := congrArg List.length R.rows
    rw [Array.length_toList] at this
    rw [this]
    unfold L2.rowsOf
    rw [List.length_map]
  have hfew := R.few
  have key : L.length = ps.length ↔ ps.Nodup := by
    have sub : ∀ x ∈ L.map (·.2), x ∈ ks.map (·.2) := fun x hx => by
      obtain ⟨y, hy, rfl⟩ := List.mem_map.mp hx
      exact List.mem_map.mpr ⟨y, List.mem_of_mem_take (g.sub y hy), rfl⟩
    have sup : ∀ x ∈ ks.map (·.2), x ∈ L.map (·.2) := fun x hx => by
      obtain ⟨y, hy, rfl⟩ := List.mem_map.mp hx
      exact g.all y (by rw [List.take_length]; exact hy)
    rw [← two_nodup, ← hk2]
    constructor
    · intro e
      have pm := perm_of_sub (L.map (·.2)) (ks.map (·.2)) R.nd sub (by rw [List.length_map, List.length_map]; omega)
      exact pm.nodup_iff.mpr R.nd
    · intro hn
      have pm := (List.perm_ext_iff_of_nodup R.nd hn).mpr fun x => ⟨sub x, sup x⟩
      have := pm.length_eq
      rw [List.length_map, List.length_map] at this
      omega
  have hfit : t.fits es.size = true := L2.SetTR.fits (s := { s1 with heap := h', toks := tk }) R
  refine call_len_set ho hex hd hfit (by omega) ⟨.int L.length, H1, I2.tok _, ⟨_, by rw [hsz]⟩, q1 L.length key⟩
end

theorem lc_cb {vs0 : List V} {L : List (List Nat)} {g : TG} {tt : TT} {te : TE} {vs : List Nat} {σ : L2.St} {H1 : Hp} {D : Addr} {Qd : Hp → Prop} (Pv : Nat → Hp → Prop) (h0 : Pv 0 (upd H1 D (.lst [])))
    (hs : ∀ i ix H T, L[i]? = some ix → Pv i H → H T = none → g (.ref T) (wipe σ vs) (upd H T (.tup (Cb.pickV vs0 ix))) fun σ2 H2 => wipe σ2 vs = wipe σ vs ∧ tt σ2 H2 fun b H3 =>
      if b = true then te σ2 H3 fun y H4 => ∃ acc, H4 D = some (.lst acc) ∧ acc.length < sizeLine ∧ Pv (i + 1) (upd H4 D (.lst (acc ++ [y]))) else Pv (i + 1) H3) (hd : ∀ H, Pv L.length H → Qd H) :
    ∃ W : Nat → Nat → Hp → Prop, (∃ m, W 0 m (upd H1 D (.lst []))) ∧ ∀ i m H, W i m H →
      ((Cb.ItC vs0 L).stop i H ∧ Qd H) ∨ ((Cb.ItC vs0 L).go i H ∧ ∃ Nx : Hp → Prop, (∀ H', Nx H' → ∃ m', m' < m ∧ W (i + 1) m' H') ∧ ∀ x H', (Cb.ItC vs0 L).yld i H x H' → g x (wipe σ vs) H' fun σ2 H2 => wipe σ2 vs = wipe σ vs ∧ tt σ2 H2 fun b H3 =>
        if b = true then te σ2 H3 fun y H4 => ∃ acc, H4 D = some (.lst acc) ∧ acc.length < sizeLine ∧ Nx (upd H4 D (.lst (acc ++ [y]))) else Nx H3) := by
  refine ⟨fun i m H => m = L.length - i ∧ i ≤ L.length ∧ Pv i H, ⟨L.length, by simp, Nat.zero_le _, h0⟩, ?_⟩
  rintro i m H ⟨rfl, hi, p⟩
  by_cases hlt : i < L.length
  · refine .inr ⟨hlt, Pv (i + 1), fun H' p' => ⟨L.length - (i + 1), by omega, rfl, hlt, p'⟩, ?_⟩
    rintro x H' ⟨T, ix, e, rfl, hT, rfl⟩
    exact hs i ix H T e p hT
  · have e : i = L.length := by omega
    subst e
    exact .inl ⟨Nat.le_refl _, hd H p⟩
theorem cmb_lt : ∀ (k : Nat) (xs v : List Nat), v ∈ Cb.cmb k xs → ∀ j ∈ v, j ∈ xs
  | 0, xs, v, h, j, hj => by
    have : v = [] := by simpa [Cb.cmb] using h
    rw [this] at hj; cases hj
  | k + 1, [], v, h, j, hj => by cases h
  | k + 1, x :: xs, v, h, j, hj => by
    rcases List.mem_append.mp h with h | h
    · obtain ⟨v', h1, rfl⟩ := List.mem_map.mp h
      rcases List.mem_cons.mp hj with e | e
      · rw [e]; simp
      · exact List.mem_cons_of_mem _ (cmb_lt k xs v' h1 j e)
    · exact List.mem_cons_of_mem _ (cmb_lt (k + 1) xs v h j hj)

/-! ### the keeping of pairs -/
def ropeB (n : Int) (p : Int × Int) : Bool := decide (0 ≤ p.1) && (decide (p.1 + 2 ≤ p.2) && (decide (p.2 < n) && !decide (p = (0, n - 1))))
def sp_isrope : Sp := fun vs H Q _ => ∃ n a b : Int, vs = [.int n, .int a, .int b] ∧ ∀ H', Same H H' → Q (.bl (ropeB n (a, b))) H'
theorem ok_is_rope (T : Env K mg) : FnOk P w K mg base CX0 1 T.a_is_rope T.fd_is_rope ["n", "a", "b"] sp_isrope := by
  refine T.F_is_rope.ok sc_is_rope (fun vs H Q E h => ?_) (fun cdv A outer s H vs Q E hr h => ?_)
  · obtain ⟨n, a, b, rfl, _⟩ := h
    rfl
  · obtain ⟨n, a, b, rfl, q⟩ := h
    refine ⟨_, (pss_one (ps_ret (pe_and (pe_cmpR op_le pe_int (pv 1) (nomark _)) (pe_and (pe_cmpR op_le (pe_op op_add (pv 1) pe_int) (pv 2) (nomark _)) (pe_and (pe_cmpR op_lt (pv 2) (pv 0) (nomark _)) (pe_one (pe_cmpR (op_neP2 (by have h_ := hr.units; exact h_)) (pe_tup (pa_cons (pv 1) (pa_cons (pv 2) pa_nil))) (pe_tup (pa_cons pe_int (pa_cons (pe_op op_sub (pv 0) pe_int) pa_nil))) (nomark _)))))))), ?_⟩
    unfold ropeB at q
    refine ⟨_, rfl, _, _, rfl, rfl, _, rfl, ?_⟩
    show if decide (0 ≤ a) = true then _ else _
    cases h1 : decide (0 ≤ a) with
    | false =>
      refine iteF ?_
      have := q H (Same.refl _)
      rw [h1] at this
      exact this
    | true =>
      refine iteT ?_
      refine ⟨_, rfl, _, _, rfl, rfl, _, rfl, _, _, rfl, rfl, _, rfl, ?_⟩
      show if decide (a + 2 ≤ b) = true then _ else _
      cases h2 : decide (a + 2 ≤ b) with
      | false =>
        refine iteF ?_
        have := q H (Same.refl _)
        rw [h1, h2] at this
        exact this
      | true =>
        refine iteT ?_
        refine ⟨_, rfl, _, rfl, _, _, rfl, rfl, _, rfl, ?_⟩
        show if decide (b < n) = true then _ else _
        cases h3 : decide (b < n) with
        | false =>
          refine iteF ?_
          have := q H (Same.refl _)
          rw [h1, h2, h3] at this
          exact this
        | true =>
          refine iteT ?_
          refine ⟨_, rfl, _, rfl, small200 (by show 2 ≤ 200; decide), fun t ht => ?_⟩
          have s1 : Same H _ := same_new (o := .tup [.int a, .int b]) ht
          have ht2 : (upd H t (.tup [.int a, .int b])) t = some (.tup [.int a, .int b]) := upd_same
          generalize upd H t (.tup [.int a, .int b]) = H1 at *
          refine ⟨_, rfl, _, _, rfl, rfl, small200 (by show 2 ≤ 200; decide), fun u hu => ?_⟩
          have s2 : Same H1 _ := same_new (o := .tup [.int 0, .int (n - 1)]) hu
          have hu2 : (upd H1 u (.tup [.int 0, .int (n - 1)])) u = some (.tup [.int 0, .int (n - 1)]) := upd_same
          generalize upd H1 u (.tup [.int 0, .int (n - 1)]) = H2 at *
          have := q H2 (s1.trans s2)
          rw [h1, h2, h3] at this
          exact ⟨(a, b), (0, n - 1), ⟨t, rfl, s2 _ _ ht2⟩, ⟨u, rfl, hu2⟩, this⟩
def twoB (l : List (Int × Int)) (v : List Nat) : Bool := crossI (l.getD (v.getD 1 0) (0, 0)) (l.getD (v.getD 0 0) (0, 0))
def cutB (n : Int) (l : List (Int × Int)) : Bool := decide ((l.length : Int) = n - 3) && (decide l.Nodup && (l.all (ropeB n) && !((Cb.cmb 2 (List.range l.length)).any (twoB l))))
def sp_iscut (K : PySem.W.Frag) : Sp := fun vs H Q _ => ∃ (n : Int) (c : Addr) (xs : List V) (l : List (Int × Int)), vs = [.int n, .ref c] ∧ 3 ≤ n ∧ n ≤ 12 ∧ H c = some (.lst xs) ∧ PrL K H xs l ∧ l.length ≤ 100 ∧
  ∀ H', Same H H' → Q (.bl (cutB n l)) H'
theorem ok_is_cutting (T : Env K mg) : FnOk P w K mg base CX0 2 T.a_is_cutting T.fd_is_cutting ["n", "pairs"] (sp_iscut K) := by
  refine T.F_is_cutting.ok sc_is_cutting (fun vs H Q E h => ?_) (fun cdv A outer s H vs Q E hr h => ?_)
  · obtain ⟨n, c, xs, l, rfl, _⟩ := h
    rfl
  · obtain ⟨n, c, xs, l, rfl, h3, h12, hc, hL, hl, q⟩ := h
    refine ⟨_, (pss_cons (ps_if (PW.pt (pw_or (pt_cmpR op_ne (pe_callB (id := "len") call_len_seq (by rfl) T.m_len (by decide +kernel) (pa_cons (pv 1) pa_nil)) (pe_op op_sub (pv 0) pe_int) (nomark _)) (pw_or1 (pt_cmpR op_ne (pe_lenSet2 rfl (by exact hr.units) (by rfl) T.m_len (by rfl) T.m_set (pv 1)) (pe_callB (id := "len") call_len_seq (by rfl) T.m_len (by decide +kernel) (pa_cons (pv 1) pa_nil)) (nomark _)))))
 (pss_one (ps_ret pe_bl))
 pss_nil)
 (pss_cons (ps_if (pt_not (pt_val (pe_callB (cr_all rfl) (by rfl) T.m_all (by decide +kernel) (pa_cons (pe_lc (own := [("a", 2), ("b", 3)]) (by rfl) sc_is_cutting.nd (pi_list (pv 1)) (blkOk_by (own := [("a", 2), ("b", 3)]) (N := ["n", "pairs", "a", "b", "one", "other"]) (sc := defScope s_is_cutting) (by decide +kernel)) (fun _ _ _ _ _ => (pg_tupK (K := K) (n := 2) rfl rfl (pgs_cons (pg_name (i := 2) sc_is_cutting.nd rfl (.inl rfl)) (pgs_cons (pg_name (i := 3) sc_is_cutting.nd rfl (.inl rfl)) pgs_nil)))) (fun _ _ _ _ _ => pts_nil) (fun _ _ _ _ _ => (pe_call (ok_is_rope T) (hr.mono (by decide)) (by rfl) T.g_is_rope T.F_is_rope.kp T.b_is_rope .nil pass0 (pa_cons (pv 0) (pa_cons (pv 2) (pa_cons (pv 3) pa_nil)))))) pa_nil))))
 (pss_one (ps_ret pe_bl))
 pss_nil)
 (pss_one (ps_ret (pe_not (pe_callB (cr_any rfl) (by rfl) T.m_any (by decide +kernel) (pa_cons (pe_lc (own := [("one", 4), ("other", 5)]) (by rfl) sc_is_cutting.nd (Cb.pi_cbL (k := 2) (by decide) (by rfl) (by rfl) T.m_combinations (pv 1)) (blkOk_by (own := [("one", 4), ("other", 5)]) (N := ["n", "pairs", "a", "b", "one", "other"]) (sc := defScope s_is_cutting) (by decide +kernel)) (fun _ _ _ _ _ => (pg_tupK (K := K) (n := 2) rfl rfl (pgs_cons (pg_name (i := 4) sc_is_cutting.nd rfl (.inl rfl)) (pgs_cons (pg_name (i := 5) sc_is_cutting.nd rfl (.inl rfl)) pgs_nil)))) (fun _ _ _ _ _ => pts_nil) (fun _ _ _ _ _ => (pe_call (ok_crosses T) (hr.mono (by decide)) (by rfl) T.g_crosses T.F_crosses.kp T.b_crosses .nil pass0 (pa_cons (pv 4) (pa_cons (pv 5) pa_nil))))) pa_nil))))))), ?_⟩
    have hxl := hL.length
    have hS : SqL K H c xs := .inl (.inl hc)
    refine ⟨_, rfl, _, _, rfl, .inl hS, _, rfl, _, _, rfl, rfl, rfl, _, rfl, ?_⟩
    show if (!decide (V.int (xs.length : Int) = V.int (n - 3))) = true then _ else _
    by_cases e1 : (l.length : Int) = n - 3
    · rw [decide_eq_true (show V.int (xs.length : Int) = V.int (n - 3) by rw [hxl, e1])]
      refine iteF ?_
      refine ⟨_, rfl, c, xs, l, rfl, hS, hL, by omega, fun m hm => ?_⟩
      refine ⟨_, rfl, _, _, rfl, .inl hS, rfl, _, rfl, ?_⟩
      show if (!decide (V.int (m : Int) = V.int (xs.length : Int))) = true then _ else _
      by_cases e2 : l.Nodup
      · rw [decide_eq_true (show V.int (m : Int) = V.int (xs.length : Int) by rw [hxl, hm.mpr e2])]
        refine iteF ?_
        have hlen9 : l.length ≤ 9 := by omega
        refine ⟨_, rfl, c, rfl, ⟨_, hS⟩, fun D hD => ?_⟩
        refine lc_list (K := K) (a := c) (xs := xs) (fun i H' => Same H H' ∧ H' D = some (.lst (((l.take i).map (ropeB n)).map V.bl))) ⟨same_new hD, upd_same⟩ ?_ ?_ ?_
        · rintro i H' _ ⟨s3, _⟩
          exact s3.seq hS
        · rintro i x' H' hi ⟨s3, hz⟩
          obtain ⟨p, hp, t, rfl, ht⟩ := hL.at hi
          refine ⟨t, _, rfl, .inl (.inl (s3 _ _ ht)), rfl, _, _, rfl, _, _, rfl, rfl, rfl, yes_read ?_⟩
          refine ⟨_, rfl, _, rfl, _, rfl, n, p.1, p.2, rfl, fun H2 s4 => ?_⟩
          refine ⟨_, s4 _ _ hz, small200' (by rw [List.length_map, List.length_map, List.length_take]; omega), ?_, ?_⟩
          · intro b' o eb
            rw [upd_ne (ne_of_none eb hD)]
            exact s4 _ _ (s3 _ _ eb)
          · rw [upd_same, take_more hp, List.map_append, List.map_append]; rfl
        · rintro H1 ⟨s1, hz⟩
          rw [List.take_of_length_le (by omega)] at hz
          refine ⟨D, l.map (ropeB n), rfl, .inl (.inl hz), _, rfl, ?_⟩
          show if (!(l.map (ropeB n)).all id) = true then _ else _
          have ea : (l.map (ropeB n)).all id = l.all (ropeB n) := by rw [List.all_map]; rfl
          rw [ea]
          cases e4 : l.all (ropeB n) with
          | false =>
            refine iteT ?_
            have := q H1 s1
            unfold cutB at this
            rw [e4, Bool.false_and, Bool.and_false, Bool.and_false] at this
            exact this
          | true =>
            refine iteF ?_
            have hS1 : SqL K H1 c xs := s1.seq hS
            have hL1 := hL.mono s1
            have hcb := Cb.cbl (n := l.length) (k := 2) (by omega) (by omega)
            have hcl : (Cb.cmb 2 (List.range l.length)).length ≤ 36 := by
              have : ((List.range 10).all fun m => decide ((Cb.cmb 2 (List.range m)).length ≤ 36)) = true := by decide +kernel
              exact of_decide_eq_true (List.all_eq_true.mp this l.length (List.mem_range.mpr (by omega)))
            refine ⟨_, rfl, c, xs, rfl, hS1, by omega, Cb.cmb 2 (List.range l.length), by rw [hxl]; exact hcb, fun D2 hD2 => ?_⟩
            refine lc_cb (fun i H' => Same H1 H' ∧ H' D2 = some (.lst ((((Cb.cmb 2 (List.range l.length)).take i).map (twoB l)).map V.bl))) ⟨same_new hD2, upd_same⟩ ?_ ?_
            · rintro i ix H' U hi ⟨s3, hz2⟩ hU
              have hl2 := hcb.len ix (List.mem_of_getElem? hi)
              have hb : ∀ j ∈ ix, j < l.length := fun j hj => List.mem_range.mp (cmb_lt 2 _ ix (List.mem_of_getElem? hi) j hj)
              obtain ⟨i0, i1, rfl⟩ : ∃ i0 i1, ix = [i0, i1] := by
                match ix, hl2 with
                | [i0, i1], _ => exact ⟨i0, i1, rfl⟩
              have j0 := hb i0 (by simp)
              have j1 := hb i1 (by simp)
              obtain ⟨v0, ev0, hv0⟩ := hL1.at' (List.getElem?_eq_getElem j0)
              obtain ⟨v1, ev1, hv1⟩ := hL1.at' (List.getElem?_eq_getElem j1)
              have ep : Cb.pickV xs [i0, i1] = [v0, v1] := by
                show [xs.getD i0 .non, xs.getD i1 .non] = _
                rw [List.getD_eq_getElem?_getD, List.getD_eq_getElem?_getD, ev0, ev1]; rfl
              rw [ep]
              have s4 : Same H' _ := same_new (o := .tup [v0, v1]) hU
              have hU2 : (upd H' U (.tup [v0, v1])) U = some (.tup [v0, v1]) := upd_same
              generalize upd H' U (.tup [v0, v1]) = H4 at *
              have s34 := s3.trans s4
              refine ⟨U, _, rfl, .inl (.inl hU2), rfl, _, _, rfl, _, _, rfl, rfl, rfl, yes_read ?_⟩
              refine ⟨_, rfl, _, rfl, v0, v1, l[i0], l[i1], rfl, hv0.mono s34, hv1.mono s34, ?_⟩
              have et : twoB l [i0, i1] = crossI l[i1] l[i0] := by
                show crossI (l.getD i1 (0, 0)) (l.getD i0 (0, 0)) = _
                rw [List.getD_eq_getElem?_getD, List.getD_eq_getElem?_getD, List.getElem?_eq_getElem j0, List.getElem?_eq_getElem j1]; rfl
              rw [← et]
              refine ⟨_, s4 _ _ hz2, small200' (by rw [List.length_map, List.length_map, List.length_take]; omega), ?_, ?_⟩
              · intro b' o eb
                rw [upd_ne (ne_of_none eb hD2)]
                exact s34 _ _ eb
              · rw [upd_same, take_more hi, List.map_append, List.map_append]; rfl
            · rintro H5 ⟨s5, hz2⟩
              rw [List.take_of_length_le (Nat.le_refl _)] at hz2
              refine ⟨D2, (Cb.cmb 2 (List.range l.length)).map (twoB l), rfl, .inl (.inl hz2), ?_⟩
              have := q H5 (s1.trans s5)
              unfold cutB at this
              rw [decide_eq_true e1, decide_eq_true e2, e4, Bool.true_and, Bool.true_and, Bool.true_and] at this
              have eb : ((Cb.cmb 2 (List.range l.length)).map (twoB l)).any id = (Cb.cmb 2 (List.range l.length)).any (twoB l) := by rw [List.any_map]; rfl
              rw [eb]
              exact ⟨_, rfl, this⟩
      · rw [decide_eq_false (show ¬ V.int (m : Int) = V.int (xs.length : Int) from fun z => e2 (hm.mp (by have := V.int.inj z; omega)))]
        refine iteT ?_
        have := q H (Same.refl _)
        unfold cutB at this
        rw [decide_eq_false e2, Bool.false_and, Bool.and_false] at this
        exact this
    · rw [decide_eq_false (show ¬ V.int (xs.length : Int) = V.int (n - 3) from fun z => e1 (by have := V.int.inj z; omega))]
      refine iteT ?_
      have := q H (Same.refl _)
      unfold cutB at this
      rw [decide_eq_false e1, Bool.false_and] at this
      exact this

abbrev prL (l : List (Int × Int)) : List (Int × Int) := l.map fun p => pr p.1 p.2
def sp_kept (K : PySem.W.Frag) (C : Addr) : Sp := fun vs H Q E => ∃ (n : Int) (c : Addr) (xs : List V) (l : List (Int × Int)), vs = [.int n, .ref c] ∧ H c = some (.lst xs) ∧ PrL K H xs l ∧ l.length ≤ 60 ∧
  (¬ (3 ≤ n ∧ n ≤ 12 ∧ cutB n (sort2 (prL l)) = true) → ∀ H', Same H H' → E (.ref C) none H') ∧
  (3 ≤ n → n ≤ 12 → cutB n (sort2 (prL l)) = true → ∀ H' q ys, Same H H' → H q = none → H' q = some (.lst ys) → PrL K H' ys (sort2 (prL l)) → Q (.ref q) H')
theorem ok_kept (T : Env K mg) : FnOk P w K mg base (L2.CX P w) 3 T.a_kept T.fd_kept ["n", "ropes"] (sp_kept K T.C_NoCutting) := by
  refine T.F_kept.okX sc_kept (fun vs H Q E h => ?_) (fun cdv A outer s H vs Q E hr h => ?_)
  · obtain ⟨n, c, xs, l, rfl, _⟩ := h
    rfl
  · obtain ⟨n, c, xs, l, rfl, hc, hL, hl, k0, k1⟩ := h
    refine ⟨_, (pss_cons (ps_if (pt_not (pt_chain op_le op_le (pe_glob (v := .int 3) rfl T.m_LEAST_POSTS ⟨_, rfl⟩) (pv 0) (pe_glob (v := .int 12) rfl T.m_MOST_POSTS ⟨_, rfl⟩)))
 (pss_one (ps_raise rfl (takes_of rfl rfl rfl rfl) (pmk_own PySem.F.excBase_ValueError T.x_NoCutting T.c_NoCutting T.k_NoCutting (raises_own T.bs_NoCutting T.ty_NoCutting) rfl)))
 pss_nil)
 (pss_cons (ps_set (i := 2) sc_kept.nd rfl (.inl rfl) (pe_callB cr_sort2 (by rfl) T.m_sorted (by decide +kernel) (pa_cons (pe_lc (own := [("a", 3), ("b", 4)]) (by rfl) sc_kept.nd (pi_list (pv 1)) (blkOk_by (own := [("a", 3), ("b", 4)]) (N := ["n", "ropes", "cut", "a", "b"]) (sc := defScope s_kept) (by decide +kernel)) (fun _ _ _ _ _ => (pg_tupK (K := K) (n := 2) rfl rfl (pgs_cons (pg_name (i := 3) sc_kept.nd rfl (.inl rfl)) (pgs_cons (pg_name (i := 4) sc_kept.nd rfl (.inl rfl)) pgs_nil)))) (fun _ _ _ _ _ => pts_nil) (fun _ _ _ _ _ => (pe_call (ok_pair_of T) (hr.mono (by decide)) (by rfl) T.g_pair_of T.F_pair_of.kp T.b_pair_of .nil pass0 (pa_cons (pv 3) (pa_cons (pv 4) pa_nil))))) pa_nil)))
 (pss_cons (ps_if (pt_not (pt_val (pe_call (ok_is_cutting T) (hr.mono (by decide)) (by rfl) T.g_is_cutting T.F_is_cutting.kp T.b_is_cutting .nil pass0 (pa_cons (pv 0) (pa_cons (pv 2) pa_nil)))))
 (pss_one (ps_raise rfl (takes_of rfl rfl rfl rfl) (pmk_own PySem.F.excBase_ValueError T.x_NoCutting T.c_NoCutting T.k_NoCutting (raises_own T.bs_NoCutting T.ty_NoCutting) rfl)))
 pss_nil)
 (pss_one (ps_ret (pv 2)))))), ?_⟩
    have hxl := hL.length
    refine ⟨_, rfl, _, _, rfl, rfl, _, rfl, ?_⟩
    show if decide (3 ≤ n) = true then _ else _
    by_cases h3 : 3 ≤ n
    · rw [decide_eq_true h3]
      refine iteT ?_
      refine ⟨_, _, rfl, rfl, _, rfl, ?_⟩
      show if (!decide (n ≤ 12)) = true then _ else _
      by_cases h12 : n ≤ 12
      · rw [decide_eq_true h12]
        refine iteF ?_
        refine ⟨_, rfl, c, rfl, ⟨_, .inl (.inl hc)⟩, fun D hD => ?_⟩
        refine lc_list (K := K) (a := c) (xs := xs) (fun i H' => ∃ ws, Same H H' ∧ H' D = some (.lst ws) ∧ PrL K H' ws (prL (l.take i))) ⟨[], same_new hD, upd_same, by rw [List.take_zero]; exact .nil⟩ ?_ ?_ ?_
        · rintro i H' _ ⟨ws, s3, _, _⟩
          exact .inl (.inl (s3 _ _ hc))
        · rintro i x' H' hi ⟨ws, s3, hz, hW⟩
          obtain ⟨p, hp, t, rfl, ht⟩ := hL.at hi
          have hwl := hW.length
          rw [List.length_map, List.length_take] at hwl
          refine ⟨t, _, rfl, .inl (.inl (s3 _ _ ht)), rfl, _, _, rfl, _, _, rfl, rfl, rfl, yes_read ?_⟩
          refine ⟨_, rfl, _, rfl, p.1, p.2, rfl, fun u hu => ?_⟩
          have s4 : Same H' _ := same_new (o := .tup [.int (pr p.1 p.2).1, .int (pr p.1 p.2).2]) hu
          have hu2 : (upd H' u (.tup [.int (pr p.1 p.2).1, .int (pr p.1 p.2).2])) u = some (.tup [.int (pr p.1 p.2).1, .int (pr p.1 p.2).2]) := upd_same
          generalize upd H' u (.tup [.int (pr p.1 p.2).1, .int (pr p.1 p.2).2]) = H4 at *
          refine ⟨ws, s4 _ _ hz, small200' (by omega), ws ++ [.ref u], ?_, upd_same, ?_⟩
          · intro b' o eb
            rw [upd_ne (ne_of_none eb hD)]
            exact s4 _ _ (s3 _ _ eb)
          · have em : prL (l.take (i + 1)) = prL (l.take i) ++ [pr p.1 p.2] := by rw [take_more hp]; unfold prL; rw [List.map_append]; rfl
            rw [em]
            have ts := TupS.put (o := .lst (ws ++ [.ref u])) (s4 _ _ hz)
            exact ((hW.mono s4).tups ts).app (.one ⟨u, rfl, ts _ _ hu2⟩)
        · rintro H1 ⟨ws, s1, hz, hW⟩
          rw [List.take_of_length_le (by omega)] at hW
          refine ⟨D, ws, _, rfl, .inl (.inl hz), hW, fun ys g hY hg => ?_⟩
          have s2 : Same H1 _ := same_new (o := .lst ys) hg
          have hg2 : (upd H1 g (.lst ys)) g = some (.lst ys) := upd_same
          have hY2 := hY.mono s2
          have ng : H g = none := none_back s1 hg
          generalize upd H1 g (.lst ys) = H2 at *
          have s12 := s1.trans s2
          refine ⟨_, rfl, _, rfl, n, g, ys, sort2 (prL l), rfl, h3, h12, hg2, hY2, by rw [sort2_len, List.length_map]; omega, fun H3 s3 => ?_⟩
          refine ⟨_, rfl, ?_⟩
          show if (!cutB n (sort2 (prL l))) = true then _ else _
          cases e : cutB n (sort2 (prL l)) with
          | false =>
            refine iteT ?_
            exact k0 (fun z => by rw [e] at z; cases z.2.2) H3 (s12.trans s3)
          | true =>
            refine iteF ?_
            exact ⟨_, rfl, k1 h3 h12 e H3 g ys (s12.trans s3) ng (s3 _ _ hg2) (hY2.mono s3)⟩
      · rw [decide_eq_false h12]
        refine iteT ?_
        exact k0 (fun z => h12 z.2.1) H (Same.refl _)
    · rw [decide_eq_false h3]
      refine iteF ?_
      refine ⟨_, rfl, ?_⟩
      show if true = true then _ else _
      refine iteT ?_
      exact k0 (fun z => h3 z.1) H (Same.refl _)

def twoC (m : Nat) : Bool := ((List.range m).all fun i => (List.range m).all fun j => !decide (i < j) || decide ([i, j] ∈ Cb.cmb 2 (List.range m))) && ((Cb.cmb 2 (List.range m)).all fun v => decide (v.getD 0 0 < v.getD 1 0) && decide (v.getD 1 0 < m))
theorem two_dec : ((List.range 10).all twoC) = true := by decide +kernel
theorem two_any {l : List (Int × Int)} (h : l.length ≤ 9) : ((Cb.cmb 2 (List.range l.length)).any (twoB l)) = false ↔ l.Pairwise fun p q => crossI q p = false := by
  have hc := List.all_eq_true.mp two_dec l.length (List.mem_range.mpr (by omega))
  unfold twoC at hc
  rw [Bool.and_eq_true] at hc
  have gd : ∀ i (hi : i < l.length), l.getD i (0, 0) = l[i] := fun i hi => by
    rw [List.getD_eq_getElem?_getD, List.getElem?_eq_getElem hi]; rfl
  rw [List.pairwise_iff_getElem, List.any_eq_false]
  constructor
  · intro h i j hi hj hij
    have := List.all_eq_true.mp (List.all_eq_true.mp hc.1 i (List.mem_range.mpr hi)) j (List.mem_range.mpr hj)
    rw [decide_eq_true hij] at this
    have hm := h _ (of_decide_eq_true this)
    unfold twoB at hm
    have e1 := gd i hi
    have e2 := gd j hj
    have hm : ¬ crossI (l.getD j (0, 0)) (l.getD i (0, 0)) = true := hm
    rw [e1, e2] at hm
    exact Bool.eq_false_iff.mpr hm
  · intro h v hv
    have := List.all_eq_true.mp hc.2 v hv
    rw [Bool.and_eq_true, decide_eq_true_eq, decide_eq_true_eq] at this
    unfold twoB
    rw [gd _ this.2, gd _ (by omega), h _ _ (by omega) this.2 this.1]
    exact Bool.false_ne_true

theorem cut_side {n : Int} {l : List (Int × Int)} (h : IsCut n l) {p : Int × Int} (hp : p ∈ l) : p.2 - p.1 ≠ n - 1 := by
  have lt := cut_lt h hp
  obtain ⟨T, hT, hR⟩ := h.ex
  obtain ⟨a, b⟩ := p
  have := (hR a b).mp hp
  dsimp only at *
  omega

def sp_list (K : PySem.W.Frag) : Sp := fun vs H Q _ => ∃ (a : Addr) (xs : List V) (m : Nat), vs = [.ref a, .int (m : Int)] ∧ H a = some (.lst xs) ∧ m ≤ 100 ∧ (∀ x ∈ xs, ∃ ns : List Int, TupAt H x ns ∧ ns.length = m) ∧ Q (.bl true) H
theorem ok__law_list (T : Env K mg) : FnOk P w K mg base CX0 3 T.a__law_list T.fd__law_list ["_law_found", "_law_many_here"] (sp_list K) := by
  refine T.F__law_list.ok sc__law_list (fun vs H Q E h => ?_) (fun cdv A outer s H vs Q E hr h => ?_)
  · obtain ⟨a, xs, m, rfl, _⟩ := h
    rfl
  · obtain ⟨a, xs, m, rfl, hA, hm, hx, q⟩ := h
    refine ⟨_, (pss_cons (ps_if (pt_not (pt_val (pe_callB call_isi (by rfl) T.m_isinstance (by decide +kernel) (pa_cons (pv 0) (pa_cons (pe_bltn (v := .ty "list") (u := .type "list") (by rfl) T.m_list (by decide +kernel) rfl) pa_nil)))))
 (pss_one (ps_ret pe_bl))
 pss_nil)
 (pss_cons (ps_for PassesOwn.never rfl (pi_list (pv 0)) (pg_name (i := 2) sc__law_list.nd rfl (.inl rfl))
 (pss_one (ps_if (pt_not (pt_val (pe_call (ok__law_tuple T) (hr.mono (by decide)) (by rfl) T.g__law_tuple T.F__law_tuple.kp T.b__law_tuple .nil pass0 (pa_cons (pv 2) (pa_cons (pv 1) pa_nil)))))
 (pss_one (ps_ret pe_bl))
 pss_nil)))
 (pss_one (ps_ret pe_bl)))), ?_⟩
    have hS : SqL K H a xs := .inl (.inl hA)
    refine ⟨_, rfl, _, _, _, _, _, rfl, .ty _, .base (.lst hA), kit_ty (by decide +kernel), true, rfl, iteF ?_⟩
    refine ⟨_, rfl, a, rfl, ⟨_, hS⟩, for_list (K := K) (a := a) (xs := xs) (fun i σ H' => H' = H ∧ ∃ z, σ = [some (.ref a), some (.int (m : Int)), z]) ⟨rfl, _, rfl⟩ (fun i σ H' _ ⟨e, _⟩ => by rw [e]; exact hS) ?_ ?_⟩
    · rintro i x σ H' hi ⟨rfl, z, rfl⟩
      obtain ⟨ns, h1, h2⟩ := hx x (List.mem_of_getElem? hi)
      subst h2
      refine ⟨_, rfl, _, rfl, x, ns, rfl, h1, hm, true, rfl, iteF ?_⟩
      exact ⟨rfl, _, rfl⟩
    · rintro σ H' ⟨rfl, z, rfl⟩
      exact q
theorem PrL.tup2 {H : Hp} {xs : List V} {l : List (Int × Int)} (h : PrL K H xs l) : ∀ x ∈ xs, ∃ ns : List Int, TupAt H x ns ∧ ns.length = 2 := fun x hx => ⟨_, (h.mem x hx).tup, rfl⟩

theorem five_at {v0 v1 v2 v3 v4 i : Int} (h0 : 0 ≤ i) (h5 : i < 5) : ∃ v : Int, atI [V.int v0, V.int v1, V.int v2, V.int v3, V.int v4] i = some (.int v) := by
  obtain ⟨v, _, e⟩ := int_atN (rs := [v0, v1, v2, v3, v4]) (k := i.toNat) (by show i.toNat < 5; omega)
  refine ⟨v, ?_⟩
  rw [show i = ((i.toNat : Nat) : Int) by omega]
  exact e
def sp_wild : Sp := fun vs H Q _ => ∃ n one : Int, vs = [.int n, .int one] ∧ 3 ≤ n ∧ n ≤ 12 ∧ ∀ H' v, Same H H' → Q (.int v) H'
theorem ok__law_wild (T : Env K mg) : FnOk P w K mg base CX0 1 T.a__law_wild T.fd__law_wild ["_law_n", "_law_one"] sp_wild := by
  refine T.F__law_wild.ok sc__law_wild (fun vs H Q E h => ?_) (fun cdv A outer s H vs Q E hr h => ?_)
  · obtain ⟨n, one, rfl, _⟩ := h
    rfl
  · obtain ⟨n, one, rfl, h3, h12, q⟩ := h
    refine ⟨_, (pss_cons (ps_if (pt_cmpR op_eq (pe_op op_mod (pe_op op_fdiv (pv 1) pe_int) pe_int) pe_int (nomark _))
 (pss_one (ps_ret (pe_ix ix_list (pe_lst (pa_cons (pe_un un_neg (pv 0)) (pa_cons (pe_un un_neg pe_int) (pa_cons (pe_op op_add (pv 0) pe_int) (pa_cons (pe_op op_pow pe_int pe_int) (pa_cons (pe_un un_neg (pe_op op_pow pe_int pe_int)) pa_nil)))))) (pe_op op_mod (pv 1) pe_int) (fun _ _ => rfl))))
 pss_nil)
 (pss_one (ps_ret (pe_op op_sub (pe_op op_mod (pv 1) (pe_op op_add (pv 0) pe_int)) pe_int)))), ?_⟩
    refine ⟨_, rfl, _, _, rfl, rfl, ⟨by decide, by decide⟩, _, _, rfl, rfl, (by show (0 : Int) < _; decide), rfl, _, rfl, ite2 (fun _ => ?_) (fun _ => ?_)⟩
    · have g0 := Int.emod_nonneg one (show (5 : Int) ≠ 0 by decide)
      have g1 := Int.emod_lt_of_pos one (show (0 : Int) < 5 by decide)
      obtain ⟨v, ev⟩ := five_at (v0 := -n) (v1 := -2) (v2 := n + 1) (v3 := 10 ^ 20) (v4 := -10 ^ 20) g0 g1
      refine ⟨_, rfl, _, rfl, _, rfl, _, rfl, _, _, rfl, rfl, _, _, rfl, rfl, ⟨by decide, by decide, by decide⟩, _, _, rfl, rfl, ⟨by decide, by decide, by decide⟩, _, rfl, small200 (by show 5 ≤ 200; decide), fun d hd => ?_⟩
      have s7 := same_new (o := .lst [V.int (-n), V.int (-2), V.int (n + 1), V.int (10 ^ 20), V.int (-10 ^ 20)]) hd
      exact ⟨_, rfl, _, _, rfl, rfl, (by show (0 : Int) < _; decide), d, _, _, V.int v, rfl, rfl, .inl (.inl upd_same), ev, q _ _ s7⟩
    · exact ⟨_, rfl, _, rfl, _, _, rfl, rfl, _, _, rfl, rfl, (by show (0 : Int) < _; omega), _, _, rfl, rfl, q _ _ (Same.refl _)⟩

def sp_law (K : PySem.W.Frag) : Sp := fun vs H Q _ => ∃ (a : Addr) (ns : List Int), vs = [.ref a] ∧ SqL K H a (ns.map V.int) ∧ ns.length ≤ 63 ∧ ∀ H', Q (.bl true) H'
theorem cut_ok (rs : List Int) (k : Nat) : cutV (rs.map V.int) (some (k : Int)) none = (rs.drop k).map V.int := by rw [cut_drop, List.map_drop]
theorem rowOk_drop {rs : List Int} (h : rowOk rs) (k : Nat) : rowOk (rs.drop k) := fun v hv => h v (List.mem_of_mem_drop hv)
theorem pair_at {H : Hp} {xs : List V} {l : List (Int × Int)} {k : Nat} (h : PrL K H xs l) (hk : k < l.length) : ∃ (t : Addr) (p : Int × Int), p ∈ l ∧ atI xs (k : Int) = some (.ref t) ∧ SqT K H t [.int p.1, .int p.2] := by
  obtain ⟨x, ex, t, rfl, ht⟩ := h.at' (List.getElem?_eq_getElem hk)
  exact ⟨t, l[k], List.getElem_mem hk, atI_nat ex, .inl (.inl ht)⟩
/-- what law holds behind the drawing -/
structure Drawn (K : PySem.W.Frag) (H : Hp) (n : Int) (c t : Addr) (cut : List (Int × Int)) : Prop where
  three : 3 ≤ n
  most : n ≤ 12
  isC : IsCut n cut
  srt : cut.Pairwise le2
  len : (cut.length : Int) = n - 3
  ex : ∃ xs, H c = some (.lst xs) ∧ PrL K H xs cut
  ty : ∃ ys, H t = some (.lst ys) ∧ PrL K H ys (tiesS n cut)
theorem Drawn.mono {H H' : Hp} {n : Int} {c t : Addr} {cut : List (Int × Int)} (s : Same H H') (h : Drawn K H n c t cut) : Drawn K H' n c t cut := by
  obtain ⟨xs, e1, e2⟩ := h.ex
  obtain ⟨ys, e3, e4⟩ := h.ty
  exact ⟨h.three, h.most, h.isC, h.srt, h.len, ⟨xs, s _ _ e1, e2.mono s⟩, ⟨ys, s _ _ e3, e4.mono s⟩⟩
theorem Drawn.few {H : Hp} {n : Int} {c t : Addr} {cut : List (Int × Int)} (h : Drawn K H n c t cut) : cut.length ≤ 9 := by have := h.len; have := h.most; omega
theorem isCut_perm {n : Int} {l m : List (Int × Int)} (h : IsCut n l) (p : m.Perm l) : IsCut n m := by
  obtain ⟨T, hT, hR⟩ := h.ex
  exact ⟨h.three, p.nodup_iff.mpr h.nd, T, hT, fun a b => (p.mem_iff).trans (hR a b)⟩

/-! ### sorting of tuples, an empty one among them -/
section
open PySem.SeqAt PySem.W PySem.Calls
theorem call_tuple_lt {A : PySem.Around} {s : Shared} {prog : Program} {w : World} {E : Value → Shared → Prop} {Q : Value → Shared → Prop} {l b : Addr} {items items2 : Array Value} {e r : Nat → Bool} (hl : s.heap.IsTuple l items) (hb : s.heap.IsTuple b items2)
    (he : ∀ j (h1 : j < items.size) (h2 : j < items2.size), EqAt A.in1 s items[j] items2[j] (e j)) (hr : ∀ j (h1 : j < items.size) (h2 : j < items2.size), e j = false → RcLt A.in1 s items[j] items2[j] (r j))
    (h : Q (.bool (firstLt e r (decide (items.size < items2.size)) (List.range (min items.size items2.size)))) s) : wpAny (model prog w) A (call (.builtin "tuple.__lt__") [.ref l, .ref b]) Q E s := by
  obtain ⟨⟨cls, dd, data, sl⟩, ho, hc, n, hd⟩ := id hl
  obtain ⟨⟨cls2, dd2, data2, sl2⟩, ho2, hc2, n2, hd2⟩ := id hb
  simp only at hc hd hc2 hd2
  subst hc hd hc2 hd2
  exact call_meets F.slot_tuple_lt ⟨_, ho, rfl⟩ F.entry_tuple_lt (F.args_tuple_lt_2 _ _) (PySem.SeqAt.tuple_ltAt l b items items2 n n2 dd dd2 sl sl2 e r) ⟨ho, ho2, he, hr, h⟩
theorem oneLt_tuple {prog : Program} {w : World} {A : PySem.Around} {E : Value → Shared → Prop} {s : Shared} {xs ys : List PyData} {a b : Value} {as bs : List Addr} {Q : Bool → Shared → Prop} (ra : Reads s.heap a (.tuple xs) as) (rb : Reads s.heap b (.tuple ys) bs) (h : alike (.tuple xs) (.tuple ys) = true)
    (hu : A.units + min (PyData.tuple xs).depth (PyData.tuple ys).depth < cLine) (hq : Q (dataLt (.tuple xs) (.tuple ys)) s) : wpAny (model prog w) A (oneLt' true a b) Q E s := by
  have hal : alikeAll xs ys = true := by simpa [alike] using h
  cases ra with
  | @tuple l o vs n _ as₁ h1 h2 h3 h4 =>
    cases rb with
    | @tuple l' o' vs' n' _ bs₁ k1 k2 k3 k4 =>
      have n1 : vs.size = xs.length := by simpa using ReadsAll.length _ _ _ h4
      have n2 : vs'.size = ys.length := by simpa using ReadsAll.length _ _ _ k4
      rw [dataLt_tuple, ← firstLt_toks xs ys hal, ← n1, ← n2] at hq
      rw [oneLt'_eq]
      simp only [if_true]
      refine wpAny_bind (wpAny_cRoomFor (room_here hu) ?_)
      refine wpAny_bind (wpAny_callSpecialIfBound?_slot (T := "tuple") ⟨_, h1, h2⟩ F.slot_tuple_lt (call_tuple_lt (e := pairEq xs ys) (r := fun j => dataLt (xs.getD j .none) (ys.getD j .none)) ⟨_, h1, h2, _, h3⟩ ⟨_, k1, k2, _, k3⟩ (fun j j1 j2 => ?_) (fun j j1 j2 hj => ?_) ?_))
      · have := eqAt_alikeAll xs ys A.in1 s vs.toList vs'.toList _ _ h4 k4 hal (room_in hu) j (by simpa using j1) (by simpa using j2)
        simpa using this
      · have := rcLt_alikeAll xs ys A.in1 s vs.toList vs'.toList _ _ h4 k4 hal (room_in hu) j (by simpa using j1) (by simpa using j2) hj
        simpa using this
      · exact wpAny_truthy_bool hq
theorem keyLt_general (x y : Value) : keyLt' general' x y = oneLt' false x y := rfl
def isE : PyData → Bool
  | .tuple [] => true
  | _ => false
theorem isE_iff (d : PyData) : isE d = true ↔ d = .tuple [] := by
  constructor
  · intro h
    unfold isE at h
    split at h
    · rfl
    · cases h
  · rintro rfl; rfl
/-- the first items of tuples, or none -/
theorem my_firsts {M : Model} {A : PySem.Around} {E : Value → Shared → Prop} {s : Shared} : ∀ {vs : List Value} {ds : List PyData}, EachIs (fun v d => ∃ as, Reads s.heap v d as) vs ds → (∀ d ∈ ds, ∃ l, d = .tuple l) →
    ∃ fs : List (Option Value), fs.map (·.isSome) = ds.map (fun d => !isE d) ∧ ∀ Q : List (Option Value) → Shared → Prop, Q fs s → wpAny M A (vs.mapM firstOfTuple') Q E s
  | _, _, .nil, _ => ⟨[], rfl, fun Q h => by rw [List.mapM_nil]; exact wpAny_pure h⟩
  | _, _, .cons (a := v) (as := vs) (b := d) (bs := ds) ⟨as, r⟩ t, ht => by
    obtain ⟨fs, h1, h2⟩ := my_firsts t fun d hd => ht d (List.mem_cons_of_mem _ hd)
    obtain ⟨l, rfl⟩ := ht d (List.mem_cons_self ..)
    cases r with
    | @tuple a o xs n _ _ ho hc hd hr =>
      refine ⟨xs[0]? :: fs, ?_, fun Q h => ?_⟩
      · have hl := ReadsAll.length _ _ _ hr
        rw [Array.length_toList] at hl
        have hq : (xs[0]?).isSome = !isE (PyData.tuple l) := by
          cases l with
          | nil =>
            have : xs[0]? = none := Array.getElem?_eq_none (by rw [hl]; simp)
            rw [this]
            rfl
          | cons x l =>
            have hlt : 0 < xs.size := by rw [hl]; simp
            rw [Array.getElem?_eq_getElem hlt]
            rfl
        rw [List.map_cons, List.map_cons, h1, hq]
      · rw [List.mapM_cons]
        refine wpAny_bind ?_
        rw [kas_first_eq]
        refine wpAny_bind (Looks.here (show Looks M s.heap (typeOf (.ref a)) o.cls from (Looks.ld ho).andThen .now) ?_)
        rw [hc, if_neg (by first | decide | simp)]
        refine wpAny_bind (listItems_at ho hd (wpAny_pure ?_))
        exact wpAny_bind (h2 (fun bs s' => wpAny M A (pure (xs[0]? :: bs)) Q E s') (wpAny_pure h))
/-- tuples that read as alike data can be sorted, also where one is empty -/
theorem SortsAt.tup {prog : Program} {w : World} {A : PySem.Around} {s : Shared} {vs : List Value} {ds : List PyData} (e : EachIs (fun v d => ∃ as, Reads s.heap v d as) vs ds) (hal : AllAlike ds) (hk : ∀ d ∈ ds, ∃ l, d = .tuple l) (hu : ∀ d, d ∈ ds → A.units + d.depth < cLine) :
    SortsAt prog w A s (dataKind s.heap ds) vs := by
  by_cases hne : ∀ d ∈ ds, d ≠ .tuple []
  · refine SortsAt.data e hal (.inl fun d hd => ?_) hu
    obtain ⟨l, rfl⟩ := hk d hd
    cases l with
    | nil => exact absurd rfl (hne _ hd)
    | cons x r => exact ⟨x, r, rfl⟩
  have room : ∀ {d d' : PyData}, d ∈ ds → A.units + min d.depth d'.depth < cLine := fun {d d'} hd => Nat.lt_of_le_of_lt (Nat.add_le_add_left (Nat.min_le_left _ _) _) (hu d hd)
  refine ⟨fun v hv => ?_, ?_⟩
  · obtain ⟨d, hd, as, r⟩ := e.left v hv
    exact ⟨_, dataKind_some hal hd r⟩
  -- both kinds ask the tuples' own order
  have gen : PyProof.Rows.H.LtAt prog w A s (dataKind s.heap ds) general' := fun E x y a b Q ha hb hq => by
    obtain ⟨d, as, hd, ra, rfl⟩ := dataKind_inv ha
    obtain ⟨d', as', hd', rb, rfl⟩ := dataKind_inv hb
    rw [keyLt_general]
    obtain ⟨l, rfl⟩ := hk d hd
    exact oneLt_alike (fun h => absurd h Bool.false_ne_true) ra rb (hal _ hd _ hd') (by simp) (room hd) hq
  have one : PyProof.Rows.H.LtAt prog w A s (dataKind s.heap ds) oneType' := fun E x y a b Q ha hb hq => by
    obtain ⟨d, as, hd, ra, rfl⟩ := dataKind_inv ha
    obtain ⟨d', as', hd', rb, rfl⟩ := dataKind_inv hb
    rw [keyLt'_oneType]
    obtain ⟨l, rfl⟩ := hk d hd
    obtain ⟨l', rfl⟩ := hk d' hd'
    exact oneLt_tuple ra rb (hal _ hd _ hd') (room hd) hq
  have notAll : ∀ fs : List (Option Value), fs.map (·.isSome) = ds.map (fun d => !isE d) → (fs.toArray.all fun x => x.isSome) = false := fun fs hf => by
    rw [List.all_toArray]
    have h1 : fs.all (fun x => x.isSome) = (fs.map (·.isSome)).all id := by rw [List.all_map]; rfl
    rw [h1, hf, List.all_map]
    cases hc : ds.all (id ∘ fun d => !isE d) with
    | false => rfl
    | true =>
      refine absurd (fun d hd he => ?_) hne
      have h2 : (!isE d) = true := List.all_eq_true.mp hc d hd
      rw [(isE_iff d).mpr he] at h2
      cases h2
  cases ds with
  | nil => exact absurd (fun d hd => absurd hd (by simp)) hne
  | cons d₀ ds₀ =>
    by_cases h0 : d₀ = .tuple []
    · refine ⟨oneType', one, fun h2 E Q hq => ?_⟩
      obtain ⟨fs, hf, hm⟩ := my_firsts (M := model prog w) (A := A) (E := E) e hk
      rw [kat_kind_eq, List.mapM_toArray, map_eq_pure_bind]
      refine wpAny_bind (wpAny_bind (hm _ (wpAny_pure ?_)))
      rw [if_neg (by rw [notAll fs hf]; exact Bool.false_ne_true)]
      have hf0 : (fs.toArray[0]?.bind id).isSome = false := by
        cases fs with
        | nil => simp at hf
        | cons f fs =>
          rw [List.map_cons, List.map_cons] at hf
          have := (List.cons.inj hf).1
          rw [h0] at this
          have this : f.isSome = false := this
          simpa using this
      rw [if_neg (by rw [hf0]; exact Bool.false_ne_true)]
      rw [oneTypeOnly'_eq, List.mapM_toArray, map_eq_pure_bind]
      have hT : ∀ v ∈ vs, Looks (model prog w) s.heap (typeOf v) (Value.type "tuple") := fun v hv => by
        obtain ⟨d, hd, as, r⟩ := e.left v hv
        obtain ⟨l, rfl⟩ := hk d hd
        exact looks_reads r
      refine wpAny_bind (wpAny_bind (wpAny_bind (kas_mapM (r := Value.type "tuple") _ (fun v hv Q' hq => (hT v hv).here hq) (wpAny_pure ?_))))
      obtain ⟨v₁, vr, rfl⟩ : ∃ v₁ vr, vs = v₁ :: vr := by
        cases e with
        | cons _ _ => exact ⟨_, _, rfl⟩
      have hall : ((List.map (fun _ => Value.type "tuple") (v₁ :: vr)).toArray.all fun x => x == Value.type "tuple") = true := by
        simp only [List.all_toArray, List.all_map, List.all_eq_true]
        intro _ _
        exact beq_self_eq_true _
      have hh : (List.map (fun _ => Value.type "tuple") (v₁ :: vr)).toArray[0]? = some (Value.type "tuple") := by simp
      rw [hh]
      simp only [hall, if_true]
      exact wpAny_pure (wpAny_pure hq)
    · refine ⟨general', gen, fun h2 E Q hq => ?_⟩
      obtain ⟨fs, hf, hm⟩ := my_firsts (M := model prog w) (A := A) (E := E) e hk
      rw [kat_kind_eq, List.mapM_toArray, map_eq_pure_bind]
      refine wpAny_bind (wpAny_bind (hm _ (wpAny_pure ?_)))
      rw [if_neg (by rw [notAll fs hf]; exact Bool.false_ne_true)]
      have hf0 : (fs.toArray[0]?.bind id).isSome = true := by
        cases fs with
        | nil => simp at hf
        | cons f fs =>
          rw [List.map_cons, List.map_cons] at hf
          have := (List.cons.inj hf).1
          have h3 : isE d₀ = false := by
            cases hq : isE d₀ with
            | false => rfl
            | true => exact absurd ((isE_iff d₀).mp hq) h0
          rw [h3] at this
          simpa using this
      rw [if_pos hf0]
      exact wpAny_pure hq
/-- xs.sort(), the items tuples that read as alike data -/
theorem list_sort_tup {prog : Program} {w : World} {A : PySem.Around} {E : Value → Shared → Prop} {s : Shared} {β : Type} {vs : List Value} {bs : List β} {enc : β → PyData} {R : Value → β → Prop} {a : Addr} {n : Nat} {Q : Value → Shared → Prop} (ho : s.heap.get? a = some (seqObj "list" vs.toArray n)) (e : EachIs R vs bs)
    (er : EachIs (fun v b => ∃ as, Reads s.heap v (enc b) as ∧ a ∉ as) vs bs) (hal : AllAlike (bs.map enc)) (hk : ∀ b ∈ bs, ∃ l, enc b = .tuple l) (hL : bs.length ≤ sizeLine)
    (hu : ∀ b, b ∈ bs → A.units + 1 + (enc b).depth < cLine) (h : ∀ out, out.length = bs.length → EachIs R out (bs.mergeSort (dataLe false enc)) → Q .none { s with heap := sortedHeap s.heap a vs (List.toArray out) }) :
    wpAny (model prog w) A (call (.builtin "list.sort") [.ref a]) Q E s := by
  have er' : EachIs (fun v b => ∃ as, Reads (sortingHeap s.heap a vs) v (enc b) as) vs bs := each_keepBut (h' := sortingHeap s.heap a vs) (fun _ _ hb q => sortingHeap_old hb q) (fun o q => by rw [ho] at q; rw [← Option.some.inj q]) hal er
  have hk' : ∀ d ∈ bs.map enc, ∃ l, d = .tuple l := fun d hd => by
    obtain ⟨b, hb, rfl⟩ := List.mem_map.mp hd
    exact hk b hb
  refine wpAny_call_entry slot_list_sort ⟨_, ho, rfl⟩ entry_list_sort (list_sort_vals (κ := dataKind (sortingHeap s.heap a vs) (bs.map enc)) ho (SortsAt.tup (s := { s with heap := sortingHeap s.heap a vs }) (each_map (R := fun v d => ∃ as, Reads (sortingHeap s.heap a vs) v d as) enc er') hal hk' (bound_map hu)) (by rw [e.length]; exact hL) ⟨.none, rfl, ?_⟩) (args_list_sort _)
  exact h _ (by rw [sortVals_length false rfl]; exact e.length) (sortVals_data false e er' hal)
end

section
open PySem.W PySem.Calls
/-! ### d.keys(), sorted(d.keys()): a dict from pairs -/
def keysTO (v d : Addr) : HO := .ext fun h => KdlKeysView h v d
section
variable {X : Cx} {o : Expr} {td : TE}
def tKeysT (td : TE) : TE := fun σ H Q => td σ H fun x H1 => ∃ (a : Addr) (kvs : List (List Key × V)), x = .ref a ∧ H1 a = some (.dT kvs) ∧ ∀ p, H1 p = none → Q (.ref p) (upd H1 p (keysTO p a))
theorem pe_keysT {apos cpos : Pos} (ho : PE X o td) (hbase : attributeBase o "keys" X.env (eval o X.env) = eval o X.env := by rfl) (hline : (apos.endLine == cpos.line) = true := by rfl) : PE X (.Call (.Attribute o "keys" apos) [] [] cpos) (tKeysT td) := by
  refine ⟨fun pins s σ H Q I h => ?_⟩
  refine wpAny_Call_method0_late hbase hline (thn (ho.run pins s σ H _ I h) fun u s1 ⟨x, H1, I1, rx, a, kvs, ex, d, q1⟩ => ?_)
  subst ex
  obtain rfl : u = Value.ref a := rx
  obtain ⟨z, hd, xs, hp, dd⟩ := dt_of I1.hok d
  obtain ⟨oo, es, ep, h1, h2, h3, h4, h5, h6⟩ := id dd
  have hr : s1.heap.DictRaw a es ep := ⟨oo, h1, h2, h3⟩
  refine ⟨"dict", _, PySem.F.plainAttrs_dict, PySem.F.slot_dict_keys, PySem.F.type_dict_keys, hr.typeIs, fun b q => ?_, Calls.callWith_builtin rfl (PySem.evalArgs_none ?_)⟩
  · cases q
    exact ⟨oo, h1, h2.2.1⟩
  refine call_meetsIn PySem.F.slot_dict_keys dd.typeIs PySem.F.entry_dict_keys (PySem.F.args_dict_keys_1 _) (meets_dict_keys_raw a hd) ⟨⟨es, ep, hr⟩, ?_⟩
  refine ⟨.ref s1.heap.objs.size, upd H1 s1.heap.objs.size (keysTO s1.heap.objs.size a), I1.laid (t' := s1.toks) (fun _ _ e => Heap.get?_push_of_some _ e) (Nat.le_refl _) ?_, rfl, q1 _ (I1.hok.fresh (Nat.le_refl _))⟩
  exact ⟨⟨_, Heap.get?_push_size _ rfl, rfl, rfl⟩, ⟨_, Heap.get?_push_size _ rfl⟩, fun h1 h2 x k => let ⟨o, ho, r⟩ := x; ⟨o, k o ho, r⟩⟩
end
section
variable {X : Cx}
def rSortKT (K : PySem.W.Frag) : List V → Hp → VK → Prop := fun vs H Q => ∃ (p a : Addr) (dom : List (Int × Int)) (f : Int × Int → Int × Int), vs = [.ref p] ∧ H p = some (keysTO p a) ∧ FD K H a dom f ∧ dom.length ≤ 200 ∧
  ∀ (l : Addr) (xs : List V) (ps : List (Int × Int)), H l = none → ps.Perm dom → PrL K H xs ps → Q (.ref l) (upd H l (.lst xs))
theorem each_allK {α β : Type} {R : α → β → Prop} : ∀ {l : List α} {m : List β}, l.length = m.length → (∀ (j : Nat) (x : α) (y : β), l[j]? = some x → m[j]? = some y → R x y) → EachIs R l m
  | [], [], _, _ => .nil
  | x :: l, y :: m, hl, h => .cons (h 0 x y rfl rfl) (each_allK (by simpa using hl) fun j a b e1 e2 => h (j + 1) a b (by simpa using e1) (by simpa using e2))
  | [], _ :: _, hl, _ => by simp at hl
  | _ :: _, [], hl, _ => by simp at hl
theorem each_valsK {β : Type} {R : V → β → Prop} : ∀ {out : List Value} {ps : List β}, EachIs (fun u p => ∃ b, u = Value.ref b ∧ R (.ref b) p) out ps → ∃ ys, Vals ys out ∧ All2 R ys ps
  | _, _, .nil => ⟨[], .nil, .nil⟩
  | _, _, .cons ⟨b, e, hb⟩ t => by
    obtain ⟨ys, h1, h2⟩ := each_valsK t
    subst e
    exact ⟨.ref b :: ys, .cons rfl h1, .cons hb h2⟩
theorem cr_sortedKT (hc : X.calm = true) (hu : X.A.units + 64 < cLine) : CallR X (.builtin "sorted") (rSortKT X.K) := by
  intro pins s σ H vs us Q I r h
  obtain ⟨p, a, dom, f, rfl, hp, hF, hfew, q⟩ := h
  obtain rfl := Vals.ref1 r
  have view : KdlKeysView s.heap p a := (show ObjOk X.prog X.w H s.heap p (keysTO p a) from I.hok p _ hp).1
  obtain ⟨⟨kvs, ha, rk⟩, nd, sm⟩ := hF
  obtain ⟨z, hd, xs', rel, dd⟩ := dt_of I.hok ha
  obtain ⟨o, es, ep, ho, hx, hdat, hes, his, hn⟩ := id dd
  have hr : s.heap.DictRaw a es ep := ⟨o, ho, hx, hdat⟩
  have l1 : kvs.length = xs'.length := Paired.length rel
  have l2 : es.size = xs'.length := size_of_entries hes
  have l3 : kvs.length = dom.length := rk.length
  have hline : (100000 : Nat) ≤ sizeLine := by decide
  refine Calls.call_function_entry PyProof.Rows.kind_sorted PyProof.Rows.plain_sorted PyProof.Rows.entry_sorted (PyProof.Rows.args_sorted1 _) ?_
  unfold Builtin.«sorted»
  refine wpAny_bind (m := checkCount "sorted" 1 1 _) (wpAny_pure ?_)
  refine wpAny_bind (kdu_collect (A := X.A.in1) (KdlSrc.rawKeys (es := es) (ep := ep) (r := p) (d := a)) (I.ok.hd hc) ⟨view, hr⟩ (by omega) (fun h' tk acc hk hacc => ?_))
  have hal2 : acc.toList.length = dom.length := by rw [Array.length_toList, hacc.1]; omega
  have hE : EachIs (fun v (e : Int × Int) => ∃ b, v = Value.ref b ∧ PrAt X.K H (.ref b) e) acc.toList dom := each_allK hal2 fun j u e e1 e2 => by
    obtain ⟨hi, eu⟩ := hacc.2 j u (by rw [← Array.getElem?_toList]; exact e1)
    obtain ⟨kv, g1, g2, _⟩ := rk.at' e2
    obtain ⟨y, hy, r1, r2, _⟩ := L2.paired_get rel g1
    have qe := PySem.entry_at hes j
    rw [hy, Array.getElem?_eq_getElem hi] at qe
    have een : es[j] = entryOfKey (tupleKind (mixKind X.prog X.w)) y := Option.some.inj qe
    refine ⟨y.2.1, by rw [eu, een]; rfl, y.2.1, rfl, ?_⟩
    rw [g2] at r2
    exact r2
  have I1 : Inv X pins σ H { s with heap := h', toks := tk } := I.kept hk
  refine wpAny_bind (wpAny_newList ?_ (by rw [hal2]; omega))
  have hoL : (h'.push (seqObj "list" acc.toList.toArray 0)).get? h'.objs.size = some (seqObj "list" acc.toList.toArray 0) := Heap.get?_push_size _ rfl
  show wpAny _ _ _ _ _ { s with heap := h'.push (seqObj "list" acc.toList.toArray 0), toks := tk }
  have hR : EachIs (fun v b => ∃ as, Reads (h'.push (seqObj "list" acc.toList.toArray 0)) v (dat2 b) as ∧ h'.objs.size ∉ as) acc.toList dom := hE.mono fun u k ⟨b, eu, t, et, hb⟩ => by
    subst eu
    cases et
    have hk2 : ∀ c o, h'.get? c = some o → (h'.push (seqObj "list" acc.toList.toArray 0)).get? c = some o := fun c o e => Heap.get?_push_of_some _ e
    refine ⟨[], ?_, by simp⟩
    obtain ⟨_, its, rv, ot, hot, hct, nt, hdt⟩ := (show ObjOk X.prog X.w H h' b (.tup [.int k.1, .int k.2]) from I1.hok b _ hb)
    cases rv with
    | cons r1 r2 =>
      cases r2 with
      | cons r2 r3 =>
        cases r3
        obtain ⟨t1, rfl⟩ := r1
        obtain ⟨t2, rfl⟩ := r2
        exact Reads.tuple (hk2 _ _ hot) hct hdt (.cons (as := []) (.int _ _) (.cons (as := []) (.int _ _) .nil))
  refine wpAny_bind (wpAny_holding (list_sort_tup (s := { s with heap := h'.push (seqObj "list" acc.toList.toArray 0), toks := tk }) (enc := dat2) (R := fun v k => ∃ b, v = Value.ref b ∧ PrAt X.K H (.ref b) k) hoL hE hR ?_ ?_ ?_ ?_ fun out ho2 hout => ?_))
  · intro x hx y hy
    obtain ⟨k, hk1, rfl⟩ := List.mem_map.mp hx
    obtain ⟨k', hk2, rfl⟩ := List.mem_map.mp hy
    rfl
  · intro k hk1
    exact ⟨_, rfl⟩
  · omega
  · intro k hk1
    have h9 : X.A.in1.units = X.A.units + 1 := rfl
    have h8 : (dat2 k).depth = 1 := rfl
    omega
  · obtain ⟨ys, hys1, hys2⟩ := each_valsK (R := fun x e => PrAt X.K H x e) hout
    obtain ⟨e', he'⟩ := PyProof.Rows.sortedHeap_at (vs := acc.toList) (out := out.toArray) hoL
    have hlen : ys.length ≤ sizeLine := by
      rw [hys1.length, ho2]
      omega
    refine wpAny_pure ⟨_, rfl, .ref h'.objs.size, upd H h'.objs.size (.lst ys), I1.laid (t' := tk) (fun b u e => ?_) (Nat.le_refl _)
      (show ObjOk X.prog X.w _ _ _ (.lst ys) from ⟨hlen, out, e', hys1, he'⟩), rfl, q _ ys _ (I1.hok.fresh (Nat.le_refl _)) (List.mergeSort_perm _ _) hys2⟩
    have hb : b < h'.objs.size := Heap.lt_size e
    rw [PyProof.Rows.sortedHeap_old (Nat.ne_of_lt hb) (by rw [size_push']; exact Nat.lt_succ_of_lt hb)]
    exact Heap.get?_push_of_some _ e
end

end
/-! ### sorted(d), a dict from pairs -/
section
open PySem.W PySem.Calls
variable {X : Cx}
def rSortDT (K : PySem.W.Frag) : List V → Hp → VK → Prop := fun vs H Q => ∃ (a : Addr) (dom : List (Int × Int)) (f : Int × Int → Int × Int), vs = [.ref a] ∧ FD K H a dom f ∧ dom.length ≤ 200 ∧
  ∀ (l : Addr) (xs : List V), H l = none → PrL K H xs (sort2 dom) → Q (.ref l) (upd H l (.lst xs))
theorem sort2_data (l : List (Int × Int)) : l.mergeSort (PySem.W.dataLe false dat2) = sort2 l := by
  have e : PySem.W.dataLe false dat2 = fun p q : Int × Int => decide (p.1 < q.1 ∨ (p.1 = q.1 ∧ p.2 ≤ q.2)) := PySem.W.dataLe_ii (fun p : Int × Int => p.1) (fun p => p.2)
  rw [e]
  rfl
theorem cr_sortedDT (hc : X.calm = true) (hu : X.A.units + 64 < cLine) : CallR X (.builtin "sorted") (rSortDT X.K) := by
  intro pins s σ H vs us Q I r h
  obtain ⟨a, dom, f, rfl, hF, hfew, q⟩ := h
  obtain rfl := Vals.ref1 r
  obtain ⟨⟨kvs, ha, rk⟩, nd, sm⟩ := hF
  obtain ⟨z, hd, xs', rel, dd⟩ := dt_of I.hok ha
  obtain ⟨o, es, ep, ho, hx, hdat, hes, his, hn⟩ := id dd
  have hr : s.heap.DictRaw a es ep := ⟨o, ho, hx, hdat⟩
  have l1 : kvs.length = xs'.length := Paired.length rel
  have l2 : es.size = xs'.length := size_of_entries hes
  have l3 : kvs.length = dom.length := rk.length
  have hline : (100000 : Nat) ≤ sizeLine := by decide
  refine Calls.call_function_entry PyProof.Rows.kind_sorted PyProof.Rows.plain_sorted PyProof.Rows.entry_sorted (PyProof.Rows.args_sorted1 _) ?_
  unfold Builtin.«sorted»
  refine wpAny_bind (m := checkCount "sorted" 1 1 _) (wpAny_pure ?_)
  refine wpAny_bind (kdu_collect (A := X.A.in1) (KdlSrc.rawDict (es := es) (ep := ep) (d := a) hd) (I.ok.hd hc) hr (by omega) (fun h' tk acc hk hacc => ?_))
  have hal2 : acc.toList.length = dom.length := by rw [Array.length_toList, hacc.1]; omega
  have hE : EachIs (fun v (e : Int × Int) => ∃ b, v = Value.ref b ∧ PrAt X.K H (.ref b) e) acc.toList dom := each_allK hal2 fun j u e e1 e2 => by
    obtain ⟨hi, eu⟩ := hacc.2 j u (by rw [← Array.getElem?_toList]; exact e1)
    obtain ⟨kv, g1, g2, _⟩ := rk.at' e2
    obtain ⟨y, hy, r1, r2, _⟩ := L2.paired_get rel g1
    have qe := PySem.entry_at hes j
    rw [hy, Array.getElem?_eq_getElem hi] at qe
    have een : es[j] = entryOfKey (tupleKind (mixKind X.prog X.w)) y := Option.some.inj qe
    refine ⟨y.2.1, by rw [eu, een]; rfl, y.2.1, rfl, ?_⟩
    rw [g2] at r2
    exact r2
  have I1 : Inv X pins σ H { s with heap := h', toks := tk } := I.kept hk
  refine wpAny_bind (wpAny_newList ?_ (by rw [hal2]; omega))
  have hoL : (h'.push (seqObj "list" acc.toList.toArray 0)).get? h'.objs.size = some (seqObj "list" acc.toList.toArray 0) := Heap.get?_push_size _ rfl
  show wpAny _ _ _ _ _ { s with heap := h'.push (seqObj "list" acc.toList.toArray 0), toks := tk }
  have hR : EachIs (fun v b => ∃ as, Reads (h'.push (seqObj "list" acc.toList.toArray 0)) v (dat2 b) as ∧ h'.objs.size ∉ as) acc.toList dom := hE.mono fun u k ⟨b, eu, t, et, hb⟩ => by
    subst eu
    cases et
    have hk2 : ∀ c o, h'.get? c = some o → (h'.push (seqObj "list" acc.toList.toArray 0)).get? c = some o := fun c o e => Heap.get?_push_of_some _ e
    refine ⟨[], ?_, by simp⟩
    obtain ⟨_, its, rv, ot, hot, hct, nt, hdt⟩ := (show ObjOk X.prog X.w H h' b (.tup [.int k.1, .int k.2]) from I1.hok b _ hb)
    cases rv with
    | cons r1 r2 =>
      cases r2 with
      | cons r2 r3 =>
        cases r3
        obtain ⟨t1, rfl⟩ := r1
        obtain ⟨t2, rfl⟩ := r2
        exact Reads.tuple (hk2 _ _ hot) hct hdt (.cons (as := []) (.int _ _) (.cons (as := []) (.int _ _) .nil))
  refine wpAny_bind (wpAny_holding (list_sort_tup (s := { s with heap := h'.push (seqObj "list" acc.toList.toArray 0), toks := tk }) (enc := dat2) (R := fun v k => ∃ b, v = Value.ref b ∧ PrAt X.K H (.ref b) k) hoL hE hR ?_ ?_ ?_ ?_ fun out ho2 hout => ?_))
  · intro x hx y hy
    obtain ⟨k, hk1, rfl⟩ := List.mem_map.mp hx
    obtain ⟨k', hk2, rfl⟩ := List.mem_map.mp hy
    rfl
  · intro k hk1
    exact ⟨_, rfl⟩
  · omega
  · intro k hk1
    have h9 : X.A.in1.units = X.A.units + 1 := rfl
    have h8 : (dat2 k).depth = 1 := rfl
    omega
  · obtain ⟨ys, hys1, hys2⟩ := each_valsK (R := fun x e => PrAt X.K H x e) hout
    rw [sort2_data] at hys2
    obtain ⟨e', he'⟩ := PyProof.Rows.sortedHeap_at (vs := acc.toList) (out := out.toArray) hoL
    have hlen : ys.length ≤ sizeLine := by
      rw [hys1.length, ho2]
      omega
    refine wpAny_pure ⟨_, rfl, .ref h'.objs.size, upd H h'.objs.size (.lst ys), I1.laid (t' := tk) (fun b u e => ?_) (Nat.le_refl _)
      (show ObjOk X.prog X.w _ _ _ (.lst ys) from ⟨hlen, out, e', hys1, he'⟩), rfl, q _ ys (I1.hok.fresh (Nat.le_refl _)) hys2⟩
    have hb : b < h'.objs.size := Heap.lt_size e
    rw [PyProof.Rows.sortedHeap_old (Nat.ne_of_lt hb) (by rw [size_push']; exact Nat.lt_succ_of_lt hb)]
    exact Heap.get?_push_of_some _ e
end
/-! ### a method that may raise, called within a try -/
section
variable {X : Cx} {CX : CXT} {k : Nat} {f C : Addr} {fd : FuncData} {ps : List Str} {sp : Sp} {E : L2.St → XK} {m : Str} {pos apos : Pos} {e o : Expr} {es : List Expr} {ta : TE} {t : TA}
def tMethS (C : Addr) (m : Str) (sp : Sp) (E : L2.St → XK) (ta : TE) (t : TA) : TE := fun σ H Q => ta σ H fun x H1 => ∃ a dx fs, x = .ref a ∧ H1 a = some (.ins C dx fs) ∧ fs.lookup m = none ∧
  t σ H1 fun vs H2 => sp (x :: vs) H2 Q (E σ)
theorem pe_methT {pl : Sem Bool} (he : PE X o ta) (c : Cls X.K C) (hm : Meth X.K C m f) (F : FnOk X.prog X.w X.K X.mg X.base CX k f fd ps sp) (hr : Room k X.A) (hb : Binds X.K fd ps []) (hx : ∀ σ, PassesAt CX X σ (E σ)) (ha : PA X (e :: es) t)
    (hst : starEach (e :: es) X.env = (false, eval e X.env) :: starEach es X.env := by rfl) (hpl : (backTo pos (starEach es X.env)).any (·.1) = false := by rfl)
    (ht : eval (.Call (.Attribute o m apos) (e :: es) [] pos) X.env = (do
      let ov ← eval o X.env
      standAt apos.atName
      let (f, first) ← holding [ov] (getMethod ov m pl)
      callWith pos f first (backTo pos (starEach (e :: es) X.env)) (backToKw pos (keywordEach [] X.env))) := by rfl) :
    PE X (.Call (.Attribute o m apos) (e :: es) [] pos) (tMethS C m sp E ta t) := by
  refine ⟨fun pins s σ H Q I h => ?_⟩
  refine PySem.W.methodCall_KW (pl := pl) (thn (he.run pins s σ H _ I h) fun u s1 ⟨x, H1, I1, rx, a, dx, fs, ex, ea, l, q⟩ => ?_) ht
  subst ex
  obtain rfl : u = Value.ref a := rx
  refine getmeth_ok I1 ea c hm l ?_
  refine PySem.W.callWith_K (first := [.ref a]) (h₀ := X.base) I.ok.mod.kin hm.kp (thn (ha.run pos pins s1 σ H1 _ I1 q) fun us s2 ⟨vs, H2, I2, r, q2⟩ => ⟨I2.kIn, ?_⟩) hst hpl
  exact run_fnS (us := .ref a :: us) (vs := .ref a :: vs) F hr hb (hx σ) I2 (.cons rfl r) q2
theorem pe_methT0 {pl : Sem Bool} (he : PE X o ta) (c : Cls X.K C) (hm : Meth X.K C m f) (F : FnOk X.prog X.w X.K X.mg X.base CX k f fd ps sp) (hr : Room k X.A) (hb : Binds X.K fd ps []) (hx : ∀ σ, PassesAt CX X σ (E σ))
    (ht : eval (.Call (.Attribute o m apos) [] [] pos) X.env = (do
      let ov ← eval o X.env
      standAt apos.atName
      let (f, first) ← holding [ov] (getMethod ov m pl)
      callWith pos f first (backTo pos (starEach [] X.env)) (backToKw pos (keywordEach [] X.env))) := by rfl) :
    PE X (.Call (.Attribute o m apos) [] [] pos) (tMethS C m sp E ta tNil) := by
  refine ⟨fun pins s σ H Q I h => ?_⟩
  refine PySem.W.methodCall_KW (pl := pl) (thn (he.run pins s σ H _ I h) fun u s1 ⟨x, H1, I1, rx, a, dx, fs, ex, ea, l, q⟩ => ?_) ht
  subst ex
  obtain rfl : u = Value.ref a := rx
  refine getmeth_ok I1 ea c hm l ?_
  exact PySem.W.callWith_K0 (first := [.ref a]) I1.kIn hm.kp (run_fnS (us := [.ref a]) (vs := [.ref a]) F hr hb (hx σ) I1 (.cons rfl .nil) q)
end


/-! ### meads: what stands in the heap -/
structure MSt where
  n : Int
  cut : List (Int × Int)
  f : Int × Int → Int × Int
structure MGood (m : MSt) : Prop where
  three : 3 ≤ m.n
  most : m.n ≤ 12
  isC : IsCut m.n m.cut
  srt : m.cut.Pairwise le2
  len : (m.cut.length : Int) = m.n - 3
theorem MGood.few {m : MSt} (h : MGood m) : m.cut.length ≤ 9 := by have := h.len; have := h.most; omega
theorem prL_self {n : Int} {l : List (Int × Int)} (h : IsCut n l) : prL l = l := by
  refine (List.map_congr_left fun p hp => ?_).trans (List.map_id l)
  have := cut_lt h hp
  show (min p.1 p.2, max p.1 p.2) = p
  rw [Int.min_eq_left (by omega), Int.max_eq_right (by omega)]
theorem MGood.sorted {m : MSt} (h : MGood m) : sort2 (prL m.cut) = m.cut := by
  rw [prL_self h.isC, sort2_self h.srt]
theorem MGood.keeps {m : MSt} (h : MGood m) : cutB m.n (sort2 (prL m.cut)) = true := by
  rw [h.sorted]
  have h9 := h.few
  unfold cutB
  rw [decide_eq_true h.len, decide_eq_true h.isC.nd, Bool.true_and, Bool.true_and, Bool.and_eq_true]
  refine ⟨List.all_eq_true.mpr fun p hp => ?_, ?_⟩
  · have a := cut_lt h.isC hp
    have b := cut_side h.isC hp
    obtain ⟨x, y⟩ := p
    unfold ropeB
    dsimp only at *
    rw [decide_eq_true a.1, decide_eq_true a.2.1, decide_eq_true a.2.2, decide_eq_false (fun e => b (by have e1 := congrArg Prod.fst e; have e2 := congrArg Prod.snd e; dsimp only at e1 e2; omega))]
    rfl
  · have e := (two_any h9).mpr (List.Pairwise.imp_of_mem (R := fun _ _ => True) (fun hp hq _ => cut_nocross h.isC hq hp) (List.pairwise_of_forall fun _ _ => True.intro))
    rw [e]
    rfl
/-- all but what stands at A; nothing is gone -/
def But (A : List Addr) (H H' : Hp) : Prop := ∀ b o, H b = some o → (∃ o', H' b = some o') ∧ (b ∉ A → H' b = some o)
theorem But.at {A : List Addr} {H H' : Hp} (h : But A H H') {b : Addr} {o : HO} (e : H b = some o) (n : b ∉ A) : H' b = some o := (h b o e).2 n
theorem But.of {A : List Addr} {H H' : Hp} (s : Same H H') : But A H H' := fun b o e => ⟨⟨o, s b o e⟩, fun _ => s b o e⟩
theorem But.trans {A : List Addr} {H H' H2 : Hp} (h : But A H H') (k : But A H' H2) : But A H H2 := fun b o e => by
  obtain ⟨⟨o', e'⟩, n⟩ := h b o e
  exact ⟨(k b o' e').1, fun hb => (k b o (n hb)).2 hb⟩
theorem But.more {A B : List Addr} {H H' : Hp} (h : But A H H') (k : ∀ b ∈ A, b ∈ B) : But B H H' := fun b o e => ⟨(h b o e).1, fun hb => (h b o e).2 fun z => hb (k b z)⟩
theorem But.put {A : List Addr} {H H' : Hp} {p : Addr} {o : HO} (h : But A H H') (hp : p ∈ A) : But A H (upd H' p o) := fun b x e => by
  by_cases hb : b = p
  · subst hb
    exact ⟨⟨o, upd_same⟩, fun n => absurd hp n⟩
  · rw [upd_ne hb]
    exact h b x e
theorem But.refl (A : List Addr) (H : Hp) : But A H H := But.of (Same.refl H)
theorem But.same {A : List Addr} {H0 H H' : Hp} (s : Same H0 H) (h : But A H H') (n : ∀ b ∈ A, H0 b = none) : Same H0 H' := fun b o e => h.at (s b o e) fun z => by rw [n b z] at e; cases e
theorem But.back {A : List Addr} {H H' : Hp} (h : But A H H') {x : Addr} (n : H' x = none) : H x = none := by
  cases e : H x with
  | none => rfl
  | some o =>
    obtain ⟨⟨o', e'⟩, _⟩ := h x o e
    rw [n] at e'
    cases e'
/-- lists and instances stand at A -/
def LI (A : List Addr) (H : Hp) : Prop := ∀ b ∈ A, (∃ xs, H b = some (.lst xs)) ∨ ∃ C dx fs, H b = some (.ins C dx fs)
theorem LI.no {A : List Addr} {H : Hp} (l : LI A H) {b : Addr} {o : HO} (e : H b = some o) (h1 : ∀ xs, o ≠ .lst xs) (h2 : ∀ C dx fs, o ≠ .ins C dx fs) : b ∉ A := fun hb => by
  rcases l b hb with ⟨xs, z⟩ | ⟨C, dx, fs, z⟩
  · rw [e] at z; exact h1 _ (Option.some.inj z)
  · rw [e] at z; exact h2 _ _ _ (Option.some.inj z)
theorem LI.tups {A : List Addr} {H H' : Hp} (l : LI A H) (b : But A H H') : TupS H H' := fun t xs e => b.at e (l.no e (fun _ z => nomatch z) (fun _ _ _ z => nomatch z))
theorem LI.fd {A : List Addr} {H H' : Hp} {d : Addr} {dom : List (Int × Int)} {f : Int × Int → Int × Int} (l : LI A H) (b : But A H H') (h : FD K H d dom f) : FD K H' d dom f := by
  obtain ⟨⟨kvs, e, r⟩, nd, sm⟩ := h
  exact ⟨⟨kvs, b.at e (l.no e (fun _ z => nomatch z) (fun _ _ _ z => nomatch z)), Ents.tups (l.tups b) r⟩, nd, sm⟩
theorem LI.mono {A : List Addr} {H H' : Hp} (l : LI A H) (s : Same H H') : LI A H' := fun b hb => (l b hb).imp (fun ⟨xs, e⟩ => ⟨xs, s _ _ e⟩) fun ⟨C, dx, fs, e⟩ => ⟨C, dx, fs, s _ _ e⟩
/-- a state's tuple; its cutting's list is none of A -/
structure StAt (K : PySem.W.Frag) (H : Hp) (A : List Addr) (t : Addr) (m : MSt) : Prop where
  ex : ∃ (c d : Addr) (xs : List V) (dom : List (Int × Int)), H t = some (.tup [.int m.n, .ref c, .ref d]) ∧ H c = some (.lst xs) ∧ PrL K H xs m.cut ∧ FD K H d dom m.f ∧ (∀ p, p ∈ dom ↔ p ∈ tiesS m.n m.cut) ∧ c ∉ A
  good : MGood m
theorem StAt.mono {H H' : Hp} {A : List Addr} {t : Addr} {m : MSt} (s : Same H H') (h : StAt K H A t m) : StAt K H' A t m := by
  obtain ⟨⟨c, d, xs, dom, e1, e2, e3, e4, e5, e6⟩, g⟩ := h
  exact ⟨⟨c, d, xs, dom, s _ _ e1, s _ _ e2, e3.mono s, e4.mono s, e5, e6⟩, g⟩
theorem StAt.but {H H' : Hp} {A B : List Addr} {t : Addr} {m : MSt} (l : LI A H) (b : But A H H') (hs : ∀ x ∈ A, x ∈ B ∨ ∃ C dx fs, H x = some (.ins C dx fs)) (h : StAt K H B t m) : StAt K H' B t m := by
  obtain ⟨⟨c, d, xs, dom, e1, e2, e3, e4, e5, e6⟩, g⟩ := h
  have nc : c ∉ A := fun hc => by
    rcases hs c hc with z | ⟨C, dx, fs, z⟩
    · exact e6 z
    · rw [e2] at z; cases z
  exact ⟨⟨c, d, xs, dom, l.tups b _ _ e1, b.at e2 nc, e3.tups (l.tups b), l.fd b e4, e5, e6⟩, g⟩
theorem StAt.grow {H : Hp} {A B : List Addr} {t : Addr} {m : MSt} (h : StAt K H A t m) (k : ∀ b ∈ B, b ∈ A ∨ H b = none) : StAt K H B t m := by
  obtain ⟨⟨c, d, xs, dom, e1, e2, e3, e4, e5, e6⟩, g⟩ := h
  exact ⟨⟨c, d, xs, dom, e1, e2, e3, e4, e5, fun z => (k c z).elim e6 fun z => by rw [e2] at z; cases z⟩, g⟩
/-! ### deeds -/
inductive Deed where
  | turn (a b : Int) | stretch (p : Int) (x : Int × Int) | set (k : Int) (x y : Int × Int) | draw (p : Int)
def DeedAt (K : PySem.W.Frag) (H : Hp) (v : V) : Deed → Prop
  | .turn a b => ∃ q, v = .ref q ∧ H q = some (.tup [.str "turn", .int a, .int b])
  | .stretch p x => ∃ q u, v = .ref q ∧ H q = some (.tup [.str "stretch", .int p, u]) ∧ PrAt K H u x
  | .set k x y => ∃ q u w, v = .ref q ∧ H q = some (.tup [.str "set", .int k, u, w]) ∧ PrAt K H u x ∧ PrAt K H w y
  | .draw p => ∃ q, v = .ref q ∧ H q = some (.tup [.str "draw", .int p])
def deedD : Deed → PyData
  | .turn a b => .tuple [.str "turn", .int a, .int b]
  | .stretch p x => .tuple [.str "stretch", .int p, dat2 x]
  | .set k x y => .tuple [.str "set", .int k, dat2 x, dat2 y]
  | .draw p => .tuple [.str "draw", .int p]
theorem DeedAt.tups {H H' : Hp} {v : V} (s : TupS H H') : ∀ {D : Deed}, DeedAt K H v D → DeedAt K H' v D
  | .turn _ _, ⟨q, e, h⟩ => ⟨q, e, s _ _ h⟩
  | .stretch _ _, ⟨q, u, e, h, k⟩ => ⟨q, u, e, s _ _ h, k.tups s⟩
  | .set _ _ _, ⟨q, u, w, e, h, k, k2⟩ => ⟨q, u, w, e, s _ _ h, k.tups s, k2.tups s⟩
  | .draw _, ⟨q, e, h⟩ => ⟨q, e, s _ _ h⟩
theorem DeedAt.tup {H : Hp} {v : V} : ∀ {D : Deed}, DeedAt K H v D → ∃ q xs, v = .ref q ∧ H q = some (.tup xs)
  | .turn _ _, ⟨q, e, h⟩ => ⟨q, _, e, h⟩
  | .stretch _ _, ⟨q, u, e, h, k⟩ => ⟨q, _, e, h⟩
  | .set _ _ _, ⟨q, u, w, e, h, k, k2⟩ => ⟨q, _, e, h⟩
  | .draw _, ⟨q, e, h⟩ => ⟨q, _, e, h⟩
theorem DeedAt.dp {H : Hp} {v : V} : ∀ {D : Deed}, DeedAt K H v D → Dp K H v (deedD D)
  | .turn _ _, ⟨q, e, h⟩ => by subst e; exact .tup (.inl (.inl h)) (.cons (.str _) (.cons (.int _) (.cons (.int _) .nil)))
  | .stretch _ _, ⟨q, u, e, h, k⟩ => by subst e; exact .tup (.inl (.inl h)) (.cons (.str _) (.cons (.int _) (.cons k.dp .nil)))
  | .set _ _ _, ⟨q, u, w, e, h, k, k2⟩ => by subst e; exact .tup (.inl (.inl h)) (.cons (.str _) (.cons (.int _) (.cons k.dp (.cons k2.dp .nil))))
  | .draw _, ⟨q, e, h⟩ => by subst e; exact .tup (.inl (.inl h)) (.cons (.str _) (.cons (.int _) .nil))
theorem deedD_lay (D : Deed) : (deedD D).canLay0 = true := by cases D <;> simp [deedD, dat2, PyData.canLay0, PyData.canLayAll0] <;> decide +kernel
theorem deedD_depth (D : Deed) : (deedD D).depth ≤ 2 := by cases D <;> simp [deedD, dat2, PyData.depth, PyData.depthAll]
theorem deedD_sh (D : Deed) : SeqAt.shaped (deedD D) = true := by
  show ((deedD D).canLay0 && decide ((deedD D).depth ≤ 64)) = true
  rw [Bool.and_eq_true]
  exact ⟨deedD_lay D, decide_eq_true (by have := deedD_depth D; omega)⟩
/-- an entry of a mead's rows: the deed and a state -/
def EntAt (K : PySem.W.Frag) (H : Hp) (A : List Addr) (x : V) (e : Deed × MSt) : Prop := ∃ (q : Addr) (v : V) (s : Addr), x = .ref q ∧ H q = some (.tup [v, .ref s]) ∧ DeedAt K H v e.1 ∧ StAt K H A s e.2
def ListAt (K : PySem.W.Frag) (H : Hp) (A : List Addr) (l : Addr) (es : List (Deed × MSt)) : Prop := ∃ xs, H l = some (.lst xs) ∧ All2 (EntAt K H A) xs es
theorem EntAt.mono {H H' : Hp} {A : List Addr} {x : V} {e : Deed × MSt} (s : Same H H') (h : EntAt K H A x e) : EntAt K H' A x e := by
  obtain ⟨q, v, t, e1, e2, e3, e4⟩ := h
  exact ⟨q, v, t, e1, s _ _ e2, e3.tups (TupS.of s), e4.mono s⟩
theorem EntAt.but {H H' : Hp} {A B : List Addr} {x : V} {e : Deed × MSt} (l : LI A H) (b : But A H H') (hs : ∀ x ∈ A, x ∈ B ∨ ∃ C dx fs, H x = some (.ins C dx fs)) (h : EntAt K H B x e) : EntAt K H' B x e := by
  obtain ⟨q, v, t, e1, e2, e3, e4⟩ := h
  exact ⟨q, v, t, e1, l.tups b _ _ e2, e3.tups (l.tups b), e4.but l b hs⟩
theorem EntAt.grow {H : Hp} {A B : List Addr} {x : V} {e : Deed × MSt} (h : EntAt K H A x e) (k : ∀ b ∈ B, b ∈ A ∨ H b = none) : EntAt K H B x e := by
  obtain ⟨q, v, t, e1, e2, e3, e4⟩ := h
  exact ⟨q, v, t, e1, e2, e3, e4.grow k⟩
theorem ListAt.mono {H H' : Hp} {A : List Addr} {l : Addr} {es : List (Deed × MSt)} (s : Same H H') (h : ListAt K H A l es) : ListAt K H' A l es := by
  obtain ⟨xs, e, r⟩ := h
  exact ⟨xs, s _ _ e, All2.mono r fun _ _ h => h.mono s⟩
/-! ### a Mead -/
theorem ks1 : ¬ (("_state" : Str) = "_standing") := by decide +kernel
theorem ks2 : ¬ (("_state" : Str) = "_undone") := by decide +kernel
theorem ks3 : ¬ (("_standing" : Str) = "_undone") := by decide +kernel
/-- its fields, in the order in which they are stored -/
def mfl (t l u : Addr) : List (Str × V) := putF "_undone" (.ref u) (putF "_standing" (.ref l) (putF "_state" (.ref t) []))
theorem mfl_eq (t l u : Addr) : mfl t l u = ([("_state", V.ref t), ("_standing", V.ref l), ("_undone", V.ref u)] : List (Str × V)) := by
  show (putF "_undone" (.ref u) (if ("_state" : Str) = "_standing" then [(("_state" : Str), V.ref l)] else (("_state" : Str), V.ref t) :: putF "_standing" (V.ref l) []) : List (Str × V)) = _
  rw [if_neg ks1]
  show (if ("_state" : Str) = "_undone" then _ else (("_state" : Str), V.ref t) :: (if ("_standing" : Str) = "_undone" then _ else (("_standing" : Str), V.ref l) :: putF "_undone" (V.ref u) [])) = ([("_state", V.ref t), ("_standing", V.ref l), ("_undone", V.ref u)] : List (Str × V))
  rw [if_neg ks2, if_neg ks3]
  all_goals rfl
theorem mfl_state (t l u : Addr) : (mfl t l u).lookup ("_state" : Str) = some (.ref t) := by
  unfold mfl
  rw [lookup_putF, if_neg ks2, lookup_putF, if_neg ks1, lookup_putF, if_pos rfl]
theorem mfl_standing (t l u : Addr) : (mfl t l u).lookup ("_standing" : Str) = some (.ref l) := by
  unfold mfl
  rw [lookup_putF, if_neg ks3, lookup_putF, if_pos rfl]
theorem mfl_undone (t l u : Addr) : (mfl t l u).lookup ("_undone" : Str) = some (.ref u) := by
  unfold mfl
  rw [lookup_putF, if_pos rfl]
theorem mfl_no (t l u : Addr) {m : Str} (h1 : ¬ m = "_state") (h2 : ¬ m = "_standing") (h3 : ¬ m = "_undone") : (mfl t l u).lookup m = none := by
  unfold mfl
  rw [lookup_putF, if_neg h3, lookup_putF, if_neg h2, lookup_putF, if_neg h1]
  all_goals rfl
theorem mfl_len (t l u : Addr) : (mfl t l u).length = 3 := by rw [mfl_eq]; rfl
theorem mfl_put_state (t l u t' : Addr) : putF "_state" (.ref t') (mfl t l u) = mfl t' l u := by
  rw [mfl_eq, mfl_eq]
  show (if ("_state" : Str) = "_state" then _ else _) = _
  rw [if_pos rfl]
theorem mfl_put_undone (t l u u' : Addr) : putF "_undone" (.ref u') (mfl t l u) = mfl t l u' := by
  rw [mfl_eq, mfl_eq]
  show (if ("_state" : Str) = "_undone" then _ else (("_state" : Str), V.ref t) :: (if ("_standing" : Str) = "_undone" then _ else (("_standing" : Str), V.ref l) :: (if ("_undone" : Str) = "_undone" then [(("_undone" : Str), V.ref u')] else _))) = _
  rw [if_neg ks2, if_neg ks3, if_pos rfl]
theorem mfl_put_standing (t l u l' : Addr) : putF "_standing" (.ref l') (mfl t l u) = mfl t l' u := by
  rw [mfl_eq, mfl_eq]
  show (if ("_state" : Str) = "_standing" then _ else (("_state" : Str), V.ref t) :: (if ("_standing" : Str) = "_standing" then (("_standing" : Str), V.ref l') :: _ else _)) = _
  rw [if_neg ks1, if_pos rfl]
/-- a Mead stands at p; what others own is A -/
structure MeadAt (K : PySem.W.Frag) (C : Addr) (A : List Addr) (H : Hp) (p l u : Addr) (m : MSt) (ss us : List (Deed × MSt)) : Prop where
  ob : ∃ dx t, H p = some (.ins C dx (mfl t l u)) ∧ StAt K H (l :: u :: A) t m
  st : ListAt K H (l :: u :: A) l ss
  un : ListAt K H (l :: u :: A) u us
  lu : l ≠ u
  lA : l ∉ A
  uA : u ∉ A
  pA : p ∉ A
  ex : ∀ b ∈ A, ∃ o, H b = some o
variable {C : Addr}
theorem MeadAt.mono {A : List Addr} {H H' : Hp} {p l u : Addr} {m : MSt} {ss us : List (Deed × MSt)} (s : Same H H') (h : MeadAt K C A H p l u m ss us) : MeadAt K C A H' p l u m ss us := by
  obtain ⟨⟨dx, t, e, k⟩, a, b, c1, c2, c3, c4, c5⟩ := h
  exact ⟨⟨dx, t, s _ _ e, k.mono s⟩, a.mono s, b.mono s, c1, c2, c3, c4, fun b hb => let ⟨o, eo⟩ := c5 b hb; ⟨o, s _ _ eo⟩⟩
theorem MeadAt.but {A X : List Addr} {H H' : Hp} {p l u : Addr} {m : MSt} {ss us : List (Deed × MSt)} (li : LI X H) (bu : But X H H') (hs : ∀ x ∈ X, x ∈ A) (h : MeadAt K C A H p l u m ss us) : MeadAt K C A H' p l u m ss us := by
  obtain ⟨⟨dx, t, e, k⟩, ⟨xs, a1, a2⟩, ⟨ys, b1, b2⟩, c1, c2, c3, c4, c5⟩ := h
  have hs2 : ∀ x ∈ X, x ∈ l :: u :: A ∨ ∃ C dx fs, H x = some (.ins C dx fs) := fun x hx => .inl (List.mem_cons_of_mem _ (List.mem_cons_of_mem _ (hs x hx)))
  exact ⟨⟨dx, t, bu.at e fun z => c4 (hs _ z), k.but li bu hs2⟩, ⟨xs, bu.at a1 fun z => c2 (hs _ z), All2.mono a2 fun _ _ h => h.but li bu hs2⟩, ⟨ys, bu.at b1 fun z => c3 (hs _ z), All2.mono b2 fun _ _ h => h.but li bu hs2⟩, c1, c2, c3, c4, fun b hb => let ⟨o, eo⟩ := c5 b hb; (bu b o eo).1⟩
theorem MeadAt.more {A : List Addr} {H H' : Hp} {p l u w : Addr} {o : HO} {m : MSt} {ss us : List (Deed × MSt)} (h : MeadAt K C A H p l u m ss us) (s : Same H H') (n : H w = none) (ew : H' w = some o) : MeadAt K C (w :: A) H' p l u m ss us := by
  obtain ⟨⟨dx, t, e, q⟩, ⟨xs, a1, a2⟩, ⟨ys, b1, b2⟩, c1, c2, c3, c4, c5⟩ := h
  have k2 : ∀ b ∈ l :: u :: w :: A, b ∈ l :: u :: A ∨ H b = none := fun b hb => by
    rcases List.mem_cons.mp hb with z | hb
    · exact .inl (z ▸ List.mem_cons_self)
    · rcases List.mem_cons.mp hb with z | hb
      · exact .inl (z ▸ List.mem_cons_of_mem _ List.mem_cons_self)
      · rcases List.mem_cons.mp hb with z | hb
        · exact .inr (z ▸ n)
        · exact .inl (List.mem_cons_of_mem _ (List.mem_cons_of_mem _ hb))
  have no : ∀ {b o}, H b = some o → b ∉ A → b ∉ w :: A := fun e nb z => (List.mem_cons.mp z).elim (fun z => by rw [z, n] at e; cases e) nb
  exact ⟨⟨dx, t, s _ _ e, (q.grow k2).mono s⟩, ⟨xs, s _ _ a1, All2.mono a2 fun _ _ h => (h.grow k2).mono s⟩, ⟨ys, s _ _ b1, All2.mono b2 fun _ _ h => (h.grow k2).mono s⟩, c1, no a1 c2, no b1 c3, no e c4, fun b hb => (List.mem_cons.mp hb).elim (fun z => ⟨o, z ▸ ew⟩) fun z => let ⟨o, eo⟩ := c5 b z; ⟨o, s _ _ eo⟩⟩
theorem MeadAt.less {A B : List Addr} {H : Hp} {p l u : Addr} {m : MSt} {ss us : List (Deed × MSt)} (h : MeadAt K C A H p l u m ss us) (k : ∀ b ∈ B, b ∈ A) : MeadAt K C B H p l u m ss us := by
  obtain ⟨⟨dx, t, e, q⟩, ⟨xs, a1, a2⟩, ⟨ys, b1, b2⟩, c1, c2, c3, c4, c5⟩ := h
  have k2 : ∀ b ∈ l :: u :: B, b ∈ l :: u :: A ∨ H b = none := fun b hb => by
    rcases List.mem_cons.mp hb with z | hb
    · exact .inl (z ▸ List.mem_cons_self)
    · rcases List.mem_cons.mp hb with z | hb
      · exact .inl (z ▸ List.mem_cons_of_mem _ List.mem_cons_self)
      · exact .inl (List.mem_cons_of_mem _ (List.mem_cons_of_mem _ (k b hb)))
  exact ⟨⟨dx, t, e, q.grow k2⟩, ⟨xs, a1, All2.mono a2 fun _ _ h => h.grow k2⟩, ⟨ys, b1, All2.mono b2 fun _ _ h => h.grow k2⟩, c1, fun z => c2 (k _ z), fun z => c3 (k _ z), fun z => c4 (k _ z), fun b hb => c5 b (k b hb)⟩
theorem MeadAt.good {A : List Addr} {H : Hp} {p l u : Addr} {m : MSt} {ss us : List (Deed × MSt)} (h : MeadAt K C A H p l u m ss us) : MGood m := by
  obtain ⟨dx, t, e, k⟩ := h.ob
  exact k.good
theorem iteDT {p A B : Prop} [Decidable p] (h : p) (k : A) : if decide p = true then A else B := by rw [decide_eq_true h, if_pos rfl]; exact k
theorem iteDF {p A B : Prop} [Decidable p] (h : ¬ p) (k : B) : if decide p = true then A else B := by rw [decide_eq_false h, if_neg Bool.false_ne_true]; exact k

/-! ### checked -/
theorem dom_sorted {n : Int} {l dom : List (Int × Int)} (hC : IsCut n l) (nd : dom.Nodup) (hm : ∀ p, p ∈ dom ↔ p ∈ tiesS n l) : sort2 dom = sort2 (sidesL n ++ l) := by
  have p1 : dom.Perm (tiesS n l) := (List.perm_ext_iff_of_nodup nd (ties_nodup hC)).mpr hm
  exact sort2_eq (p1.trans (sort2_perm _))
def sp_checked (K : PySem.W.Frag) : Sp := fun vs H Q _ => ∃ (n : Int) (c d : Addr) (xs : List V) (l dom : List (Int × Int)) (f : Int × Int → Int × Int), vs = [.int n, .ref c, .ref d] ∧ 3 ≤ n ∧ n ≤ 12 ∧ H c = some (.lst xs) ∧ PrL K H xs l ∧ l.length ≤ 100 ∧ IsCut n l ∧
  FD K H d dom f ∧ (∀ p, p ∈ dom ↔ p ∈ tiesS n l) ∧ (∀ q ∈ dom, isLen (f q) = true) ∧ ∀ H' D, Same H H' → H D = none → FD K H' D dom f → Q (.ref D) H'
theorem ok_checked (T : Env K mg) : FnOk P w K mg base (L2.CX P w) 3 T.a_checked T.fd_checked ["n", "cut", "lengths"] (sp_checked K) := by
  refine T.F_checked.okX sc_checked (fun vs H Q E h => ?_) (fun cdv A outer s H vs Q E hr h => ?_)
  · obtain ⟨n, c, d, xs, l, dom, f, rfl, _⟩ := h
    rfl
  · obtain ⟨n, c, d, xs, l, dom, f, rfl, h3, h12, hc, hX, hl, hC, hF, hdm, hlen, kk⟩ := h
    refine ⟨_, (pss_cons (ps_if (pt_cmpR (op_neL2 (by have h_ := hr.units; exact h_)) (pe_callB (cr_sortedDT rfl (by exact hr.units)) (by rfl) T.m_sorted (by decide +kernel) (pa_cons (pv 2) pa_nil)) (pe_call (ok_ties T) (hr.mono (by decide)) (by rfl) T.g_ties T.F_ties.kp T.b_ties .nil pass0 (pa_cons (pv 0) (pa_cons (pv 1) pa_nil))) (nomark _))
 (pss_one (ps_raise rfl (takes_of rfl rfl rfl rfl) (pmk_own PySem.F.excBase_ValueError T.x_BadLength T.c_BadLength T.k_BadLength (raises_own T.bs_BadLength T.ty_BadLength) rfl)))
 pss_nil)
 (pss_cons (ps_lock (ps_if (pt_not (pt_val (pe_callB (cr_all rfl) (by rfl) T.m_all (by decide +kernel) (pa_cons (pe_lc (own := [("tie", 3)]) (by rfl) sc_checked.nd (pi_keys (pv 2)) (blkOk_by (own := [("tie", 3)]) (N := ["n", "cut", "lengths", "tie"]) (sc := defScope s_checked) (by decide +kernel)) (fun _ _ _ _ _ => (pg_name (i := 3) sc_checked.nd rfl (.inl rfl))) (fun _ _ _ _ _ => pts_nil) (fun _ _ _ _ _ => (pe_call (ok_is_length T) (hr.mono (by decide)) (by rfl) T.g_is_length T.F_is_length.kp T.b_is_length .nil pass0 (pa_cons (pe_dget (hu_of hr) (pv 2) (pv 3) (fun _ _ => rfl)) pa_nil)))) pa_nil))))
 (pss_one (ps_raise rfl (takes_of rfl rfl rfl rfl) (pmk_own PySem.F.excBase_ValueError T.x_BadLength T.c_BadLength T.k_BadLength (raises_own T.bs_BadLength T.ty_BadLength) rfl)))
 pss_nil))
 (pss_one (ps_ret (pe_lock (pe_dct (own := [("tie", 3)]) (by rfl) (hu_of hr) sc_checked.nd (pi_keys (pv 2)) (blkOk_by (own := [("tie", 3)]) (N := ["n", "cut", "lengths", "tie"]) (sc := defScope s_checked) (by decide +kernel)) (fun _ _ _ _ _ => (pg_name (i := 3) sc_checked.nd rfl (.inl rfl))) (fun _ _ _ _ _ => pts_nil) (fun _ _ _ _ _ => (pv 3)) (fun _ _ _ _ _ => (pe_dget (hu_of hr) (pv 2) (pv 3) (fun _ _ => rfl))))))))), ?_⟩
    have hfew := fd_few hF
    have hsub := (ties_nodup hC)
    have htc := ties_count hC
    have hdl := dom_len hF.nd hsub hdm
    refine ⟨_, rfl, d, dom, f, rfl, hF, by omega, fun l1 ys hl1 hY => ?_⟩
    have s1 := same_new (o := .lst ys) hl1
    have e1 : (upd H l1 (.lst ys)) l1 = some (.lst ys) := upd_same
    have hY := hY.mono s1
    generalize upd H l1 (.lst ys) = H1 at *
    refine ⟨_, rfl, _, rfl, n, c, xs, l, rfl, h3, h12, s1 _ _ hc, hX.mono s1, hl, fun H2 q2 zs s2 hq2 e2 hZ => ?_⟩
    refine ⟨l1, q2, ys, zs, _, _, rfl, rfl, .inl (.inl (s2 _ _ e1)), hY.mono s2, .inl (.inl e2), hZ, by rw [sort2_len]; omega, by rw [← dom_sorted hC hF.nd hdm, sort2_len]; omega, _, rfl, ?_⟩
    rw [dom_sorted hC hF.nd hdm]
    show if (!decide (sort2 (sidesL n ++ l) = sort2 (sidesL n ++ l))) = true then _ else _
    rw [decide_eq_true rfl]
    refine iteF ?_
    have s12 := s1.trans s2
    have hF2 := hF.mono s12
    obtain ⟨⟨kvs, ek, rk⟩, nd, sm⟩ := hF2
    have rkl : kvs.length = dom.length := rk.length
    have hc2 := s12 _ _ hc
    have hX2 := hX.mono s12
    clear s1 e1 hY s2 hq2 e2 hZ
    refine ⟨d, _, ek, True.intro, fun od => ?_⟩
    have sL : TupS H2 (upd H2 d (.frz od (.dT kvs))) := fun w ys e => by
      rw [upd_ne (ne_of e ek (fun z => nomatch z))]
      exact e
    refine ⟨_, rfl, d, od, rfl, .inr ⟨kvs, upd_same, fun D hD => ?_⟩⟩
    refine lc_it walk_keysT (fun i H' => Same (upd H2 d (.frz od (.dT kvs))) H' ∧ H' D = some (.lst (((dom.take i).map fun q => isLen (f q)).map V.bl))) ⟨same_new hD, upd_same⟩ (fun i H' _ ⟨s, _⟩ => s _ _ upd_same) ?_ ?_
    · rintro i x H' H3 hi ⟨s3, hz⟩ ⟨rfl, k, v, u, hk, rfl, hu⟩
      obtain ⟨e, he, e1, e2⟩ := rk.at hk
      have e1 : k = pk e := e1
      subst e1
      have hem : e ∈ dom := List.mem_of_getElem? he
      have hd3 := s3 _ _ upd_same
      obtain ⟨va, ga, ⟨wa, ea, qa⟩⟩ := Ents.get rk hem
      have qa : PrAt K H3 va (f e) := ⟨wa, ea, s3 _ _ (sL _ _ qa)⟩
      refine ⟨rfl, yes_read ?_⟩
      refine ⟨_, rfl, _, rfl, d, va, rfl, .inr ⟨kvs, pk e, u, .inr ⟨_, hd3⟩, rfl, hu, ga.symm⟩, va, f e, rfl, qa, ?_⟩
      refine ⟨_, hz, small200' (by rw [List.length_map, List.length_map, List.length_take]; omega), ?_, ?_⟩
      · intro b' o eb
        rw [upd_ne (ne_of_none eb hD)]
        exact s3 _ _ eb
      · rw [upd_same, take_more he, List.map_append, List.map_append]; rfl
    · rintro H' ⟨s3, hz⟩
      rw [List.take_of_length_le (by omega)] at hz
      refine ⟨D, dom.map fun q => isLen (f q), rfl, .inl (.inl hz), _, rfl, ?_⟩
      have ea : (dom.map fun q => isLen (f q)).all id = true := List.all_eq_true.mpr fun b hb => by
        obtain ⟨q, hq, rfl⟩ := List.mem_map.mp hb
        exact hlen q hq
      rw [ea]
      refine iteF ?_
      refine ⟨s3 _ _ upd_same, ?_⟩
      have s4 := Same.unlock ek s3
      have s04 := s12.trans s4
      obtain ⟨⟨kv5, ek5, rk5⟩, nd5, sm5⟩ := hF.mono s04
      generalize upd H' d (.dT kvs) = H5 at *
      have rkl5 : kv5.length = dom.length := rk5.length
      refine ⟨d, _, ek5, True.intro, fun od5 => ?_⟩
      have sL5 : TupS H5 (upd H5 d (.frz od5 (.dT kv5))) := fun w ys e => by
        rw [upd_ne (ne_of e ek5 (fun z => nomatch z))]
        exact e
      refine ⟨_, rfl, d, od5, rfl, .inr ⟨kv5, upd_same, fun D2 hD2 => ?_⟩⟩
      have hDd : D2 ≠ d := fun e => by rw [e, upd_same] at hD2; cases hD2
      have hD3 : H5 D2 = none := by rw [upd_ne hDd] at hD2; exact hD2
      refine dct_keysT (fun i H' => Same (upd H5 d (.frz od5 (.dT kv5))) H' ∧ FD K H' D2 (dom.take i) f) ⟨same_new hD2, by rw [List.take_zero]; exact FD.nil upd_same⟩ (fun i H' _ ⟨s, _⟩ => s _ _ upd_same) ?_ ?_
      · rintro i k v' u H' hk ⟨s3, hFi⟩ hu
        obtain ⟨e, he, e1, e2⟩ := rk5.at hk
        have e1 : k = pk e := e1
        subst e1
        have hem : e ∈ dom := List.mem_of_getElem? he
        have hil := (List.getElem?_eq_some_iff.mp he).1
        have hd3 := s3 _ _ upd_same
        obtain ⟨va, ga, ⟨wa, ea, qa⟩⟩ := Ents.get rk5 hem
        have qa : PrAt K H' va (f e) := ⟨wa, ea, s3 _ _ (sL5 _ _ qa)⟩
        obtain ⟨⟨kz, ez, rz⟩, nz, sz⟩ := id hFi
        have hzl := rz.length
        rw [List.length_take] at hzl
        refine ⟨rfl, yes_read ?_⟩
        refine ⟨_, rfl, _, rfl, _, rfl, d, va, rfl, .inr ⟨kv5, pk e, u, .inr ⟨_, hd3⟩, rfl, hu, ga.symm⟩, kz, pk e, u, rfl, hu, ez, small200' (by omega), same_put s3 hD2, ?_⟩
        rw [take_more he]
        have hnew : e ∉ dom.take i := fun hm => by
          obtain ⟨j, hj⟩ := List.getElem?_of_mem hm
          have hjl := (List.getElem?_eq_some_iff.mp hj).1
          rw [List.length_take] at hjl
          rw [List.getElem?_take_of_lt (by omega)] at hj
          have := nodup_at nd hj he
          omega
        refine FD.val (FD.put nz sz ez rz hnew (sm _ hem) qa) fun q _ => ?_
        unfold setF
        split
        · next e' => rw [e']
        · rfl
      · rintro H' ⟨s3, hFi⟩
        rw [List.take_of_length_le (by have := rk5.length; omega)] at hFi
        have hd3 := s3 _ _ upd_same
        refine ⟨hd3, ?_⟩
        have hFu := FD.other (x := .dT kv5) hFi hd3 hDd (fun ys z => nomatch z)
        have s4 := Same.unlock ek5 s3
        exact kk _ D2 (s04.trans s4) (none_back s04 hD3) hFu
/-! ### a Mead is made -/
def sp_minit (K : PySem.W.Frag) (C : Addr) : Sp := fun vs H Q _ => ∃ (p dx c d : Addr) (n : Int) (xs : List V) (cut dom : List (Int × Int)) (f : Int × Int → Int × Int) (A : List Addr), vs = [.ref p, .int n, .ref c, .ref d] ∧ H p = some (.ins C dx []) ∧ H c = some (.lst xs) ∧ PrL K H xs cut ∧
  FD K H d dom f ∧ (∀ q, q ∈ dom ↔ q ∈ tiesS n cut) ∧ MGood ⟨n, cut, f⟩ ∧ (∀ q ∈ dom, isLen (f q) = true) ∧ p ∉ A ∧ (∀ b ∈ A, ∃ o, H b = some o) ∧
  ∀ H' l u, But [p] H H' → H l = none → H u = none → MeadAt K C A H' p l u ⟨n, cut, f⟩ [] [] → Q .non H'
theorem ok_Mead___init__ (T : Env K mg) : FnOk P w K mg base (L2.CX P w) 4 T.a_Mead___init__ T.fd_Mead___init__ ["self", "n", "ropes", "lengths"] (sp_minit K T.C_Mead) := by
  refine T.F_Mead___init__.okX sc_Mead___init__ (fun vs H Q E h => ?_) (fun cdv A outer s H vs Q E hr h => ?_)
  · obtain ⟨p, dx, c, d, n, xs, cut, dom, f, A, rfl, _⟩ := h
    rfl
  · obtain ⟨p, dx, c, d, n, xs, cut, dom, f, B, rfl, hp, hc, hX, hF, hdm, hG, hlen, hpA, hA, kk⟩ := h
    refine ⟨_, (pss_cons (ps_set (i := 4) sc_Mead___init__.nd rfl (.inl rfl) (pe_callS (ok_kept T) (hr.mono (by decide)) (by rfl) T.g_kept T.F_kept.kp T.b_kept (fun σ => passAt (takes_of rfl rfl rfl rfl) σ) (pa_cons (pv 1) (pa_cons (pv 2) pa_nil))))
 (pss_cons (ps_fld (pv 0) (pe_tup (pa_cons (pv 1) (pa_cons (pv 4) (pa_cons (pe_callS (ok_checked T) (hr.mono (by decide)) (by rfl) T.g_checked T.F_checked.kp T.b_checked (fun σ => passAt (takes_of rfl rfl rfl rfl) σ) (pa_cons (pv 1) (pa_cons (pv 4) (pa_cons (pv 3) pa_nil)))) pa_nil)))) rfl)
 (pss_cons (ps_fld (pv 0) (pe_lst pa_nil) rfl)
 (pss_one (ps_fld (pv 0) (pe_lst pa_nil) rfl))))), ?_⟩
    have h9 := hG.few
    have h9 : cut.length ≤ 9 := h9
    have h3 := hG.three
    have h12 := hG.most
    refine ⟨_, rfl, _, rfl, n, c, xs, cut, rfl, hc, hX, by omega, fun hn => absurd ⟨h3, h12, hG.keeps⟩ hn, fun _ _ _ H1 q1 ys s1 hq1 e1 hY => ?_⟩
    have es : sort2 (prL cut) = cut := hG.sorted
    rw [es] at hY
    refine ⟨_, rfl, _, rfl, _, rfl, _, rfl, _, rfl, n, q1, d, ys, cut, dom, f, rfl, h3, h12, e1, hY, by omega, hG.isC, hF.mono s1, hdm, hlen, fun H2 D s2 hD hFD => ?_⟩
    have s12 := s1.trans s2
    refine ⟨small200 (by show 3 ≤ 200; decide), fun t ht => ?_⟩
    have s3 : Same H2 _ := same_new (o := .tup [.int n, .ref q1, .ref D]) ht
    have et : (upd H2 t (.tup [.int n, .ref q1, .ref D])) t = some (.tup [.int n, .ref q1, .ref D]) := upd_same
    generalize upd H2 t (.tup [.int n, .ref q1, .ref D]) = H3 at *
    have s13 := s12.trans s3
    have hp3 := s13 _ _ hp
    refine ⟨_, rfl, p, T.C_Mead, dx, _, rfl, hp3, T.cl_Mead, T.na_Mead__state, (by show 0 < 1000; decide), ?_⟩
    have hqp : q1 ≠ p := (ne_of_none hp hq1).symm
    have pm : p ∈ [p] := List.mem_singleton.mpr rfl
    have b4 : But [p] H3 (upd H3 p (.ins T.C_Mead dx (putF "_state" (.ref t) []))) := (But.refl _ _).put pm
    have hp4 : (upd H3 p (.ins T.C_Mead dx (putF "_state" (.ref t) []))) p = some (.ins T.C_Mead dx (putF "_state" (.ref t) [])) := upd_same
    generalize upd H3 p (.ins T.C_Mead dx (putF "_state" (.ref t) [])) = H4 at *
    refine ⟨small200 (by show 0 ≤ 200; decide), fun l hl => ?_⟩
    have s5 : Same H4 _ := same_new (o := .lst []) hl
    have el : (upd H4 l (.lst [])) l = some (.lst []) := upd_same
    generalize upd H4 l (.lst []) = H5 at *
    refine ⟨_, rfl, p, T.C_Mead, dx, _, rfl, s5 _ _ hp4, T.cl_Mead, T.na_Mead__standing, (by show 1 < 1000; decide), ?_⟩
    have b6 : But [p] H5 (upd H5 p (.ins T.C_Mead dx (putF "_standing" (.ref l) (putF "_state" (.ref t) [])))) := (But.refl _ _).put pm
    have hp6 : (upd H5 p (.ins T.C_Mead dx (putF "_standing" (.ref l) (putF "_state" (.ref t) [])))) p = some (.ins T.C_Mead dx (putF "_standing" (.ref l) (putF "_state" (.ref t) []))) := upd_same
    generalize upd H5 p (.ins T.C_Mead dx (putF "_standing" (.ref l) (putF "_state" (.ref t) []))) = H6 at *
    refine ⟨small200 (by show 0 ≤ 200; decide), fun u hu => ?_⟩
    have s7 : Same H6 _ := same_new (o := .lst []) hu
    have eu : (upd H6 u (.lst [])) u = some (.lst []) := upd_same
    generalize upd H6 u (.lst []) = H7 at *
    refine ⟨_, rfl, p, T.C_Mead, dx, _, rfl, s7 _ _ hp6, T.cl_Mead, T.na_Mead__undone, ?_, ?_⟩
    · have : (putF "_standing" (V.ref l) (putF "_state" (.ref t) [])).length ≤ 2 := Nat.le_trans (length_putF _ _ _) (Nat.succ_le_succ (length_putF _ _ _))
      omega
    have b8 : But [p] H7 (upd H7 p (.ins T.C_Mead dx (mfl t l u))) := (But.refl _ _).put pm
    have hp8 : (upd H7 p (.ins T.C_Mead dx (mfl t l u))) p = some (.ins T.C_Mead dx (mfl t l u)) := upd_same
    show Q .non (upd H7 p (.ins T.C_Mead dx (mfl t l u)))
    generalize upd H7 p (.ins T.C_Mead dx (mfl t l u)) = H8 at *
    have bH : But [p] H H3 := But.of s13
    have b34 := b4.trans (But.of s5)
    have b36 := b34.trans b6
    have b38 := (b36.trans (But.of s7)).trans b8
    have b08 := bH.trans b38
    have np : ∀ {b o}, H3 b = some o → (∀ C dx fs, o ≠ .ins C dx fs) → b ∉ [p] := fun e n z => by
      rw [List.mem_singleton.mp z, hp3] at e
      exact n _ _ _ (Option.some.inj e).symm
    have lp : l ≠ p := fun z => by rw [z, hp4] at hl; cases hl
    have up : u ≠ p := fun z => by rw [z, hp6] at hu; cases hu
    have hl0 : H l = none := (bH.trans b4).back hl
    have hu0 : H u = none := (bH.trans b36).back hu
    have hlu : l ≠ u := fun z => by
      have := b6.at el (fun z => lp (List.mem_singleton.mp z))
      rw [z, hu] at this
      cases this
    have liP : LI [p] H3 := fun b hb => by
      rw [List.mem_singleton.mp hb]
      exact .inr ⟨_, _, _, hp3⟩
    refine kk H8 l u b08 hl0 hu0 ⟨⟨dx, t, hp8, ⟨⟨q1, D, ys, dom, b38.at et (np et (fun _ _ _ z => nomatch z)), ?_, ?_, ?_, hdm, ?_⟩, hG⟩⟩, ⟨[], ?_, .nil⟩, ⟨[], b8.at eu (fun z => up (List.mem_singleton.mp z)), .nil⟩, hlu, ?_, ?_, hpA, fun b hb => let ⟨o, eo⟩ := hA b hb; (b08 b o eo).1⟩
    · exact b38.at (s3 _ _ (s2 _ _ e1)) (np (s3 _ _ (s2 _ _ e1)) (fun _ _ _ z => nomatch z))
    · exact (hY.mono (s2.trans s3)).tups (liP.tups b38)
    · exact liP.fd b38 (hFD.mono s3)
    · intro hm
      rcases List.mem_cons.mp hm with z | hm
      · have := b4.at (s3 _ _ (s2 _ _ e1)) (np (s3 _ _ (s2 _ _ e1)) (fun _ _ _ z => nomatch z))
        rw [z, hl] at this
        cases this
      · rcases List.mem_cons.mp hm with z | hm
        · have := b36.at (s3 _ _ (s2 _ _ e1)) (np (s3 _ _ (s2 _ _ e1)) (fun _ _ _ z => nomatch z))
          rw [z, hu] at this
          cases this
        · obtain ⟨o, eo⟩ := hA _ hm
          rw [hq1] at eo
          cases eo
    · exact b8.at (s7 _ _ (b6.at el (fun z => lp (List.mem_singleton.mp z)))) (fun z => lp (List.mem_singleton.mp z))
    · intro hm
      obtain ⟨o, eo⟩ := hA _ hm
      rw [hl0] at eo
      cases eo
    · intro hm
      obtain ⟨o, eo⟩ := hA _ hm
      rw [hu0] at eo
      cases eo

/-! ### a Mead's methods: what it tells -/
def sp_mposts (K : PySem.W.Frag) (C : Addr) : Sp := fun vs H Q _ => ∃ (A : List Addr) (p l u : Addr) (m : MSt) (ss us : List (Deed × MSt)), vs = [.ref p] ∧ MeadAt K C A H p l u m ss us ∧ Q (.int m.n) H
theorem ok_Mead_posts (T : Env K mg) : FnOk P w K mg base CX0 1 T.a_Mead_posts T.fd_Mead_posts ["self"] (sp_mposts K T.C_Mead) := by
  refine T.F_Mead_posts.ok sc_Mead_posts (fun vs H Q E h => ?_) (fun cdv A outer s H vs Q E hr h => ?_)
  · obtain ⟨B, p, l, u, m, ss, us, rfl, _⟩ := h
    rfl
  · obtain ⟨B, p, l, u, m, ss, us, rfl, hM, q⟩ := h
    refine ⟨_, (pss_cons (ps_asg (pe_fld (pv 0) rfl) (pg_tup rfl (pgs_cons (pg_name (i := 1) sc_Mead_posts.nd rfl (.inl rfl)) (pgs_cons (pg_name (i := 2) sc_Mead_posts.nd rfl (.inl rfl)) (pgs_cons (pg_name (i := 2) sc_Mead_posts.nd rfl (.inl rfl)) pgs_nil)))))
 (pss_one (ps_ret (pv 1)))), ?_⟩
    obtain ⟨dx, t, ep, ⟨⟨c, d, xs, dom, et, _⟩, _⟩⟩ := hM.ob
    refine ⟨_, rfl, p, _, dx, _, _, rfl, ep, T.cl_Mead, T.na_Mead__state, mfl_state _ _ _, t, _, rfl, .inl (.inl et), rfl, _, _, rfl, _, _, rfl, _, _, rfl, rfl, ?_⟩
    exact ⟨_, rfl, q⟩
def sp_mropes (K : PySem.W.Frag) (C : Addr) : Sp := fun vs H Q _ => ∃ (A : List Addr) (p l u : Addr) (m : MSt) (ss us : List (Deed × MSt)), vs = [.ref p] ∧ MeadAt K C A H p l u m ss us ∧ ∀ H' r xs, Same H H' → H r = none → H' r = some (.lst xs) → PrL K H' xs m.cut → Q (.ref r) H'
theorem ok_Mead_ropes (T : Env K mg) : FnOk P w K mg base CX0 1 T.a_Mead_ropes T.fd_Mead_ropes ["self"] (sp_mropes K T.C_Mead) := by
  refine T.F_Mead_ropes.ok sc_Mead_ropes (fun vs H Q E h => ?_) (fun cdv A outer s H vs Q E hr h => ?_)
  · obtain ⟨B, p, l, u, m, ss, us, rfl, _⟩ := h
    rfl
  · obtain ⟨B, p, l, u, m, ss, us, rfl, hM, q⟩ := h
    refine ⟨_, (pss_cons (ps_asg (pe_fld (pv 0) rfl) (pg_tup rfl (pgs_cons (pg_name (i := 1) sc_Mead_ropes.nd rfl (.inl rfl)) (pgs_cons (pg_name (i := 2) sc_Mead_ropes.nd rfl (.inl rfl)) (pgs_cons (pg_name (i := 1) sc_Mead_ropes.nd rfl (.inl rfl)) pgs_nil)))))
 (pss_one (ps_ret (pe_callTy call_list_of (by rfl) T.m_list (by decide +kernel) (pa_cons (pv 2) pa_nil))))), ?_⟩
    obtain ⟨dx, t, ep, ⟨⟨c, d, xs, dom, et, ec, hX, _⟩, _⟩⟩ := hM.ob
    refine ⟨_, rfl, p, _, dx, _, _, rfl, ep, T.cl_Mead, T.na_Mead__state, mfl_state _ _ _, t, _, rfl, .inl (.inl et), rfl, _, _, rfl, _, _, rfl, _, _, rfl, rfl, ?_⟩
    refine ⟨_, rfl, c, xs, rfl, .inl (.inl (.inl ec)), fun r hr2 => ?_⟩
    exact q _ r xs (same_new hr2) hr2 upd_same (hX.mono (same_new hr2))
def sp_mlengths (K : PySem.W.Frag) (C : Addr) : Sp := fun vs H Q _ => ∃ (A : List Addr) (p l u : Addr) (m : MSt) (ss us : List (Deed × MSt)), vs = [.ref p] ∧ MeadAt K C A H p l u m ss us ∧ ∀ H' r dom, Same H H' → H r = none → FD K H' r dom m.f → (∀ q, q ∈ dom ↔ q ∈ tiesS m.n m.cut) → Q (.ref r) H'
theorem ok_Mead_lengths (T : Env K mg) : FnOk P w K mg base CX0 1 T.a_Mead_lengths T.fd_Mead_lengths ["self"] (sp_mlengths K T.C_Mead) := by
  refine T.F_Mead_lengths.ok sc_Mead_lengths (fun vs H Q E h => ?_) (fun cdv A outer s H vs Q E hr h => ?_)
  · obtain ⟨B, p, l, u, m, ss, us, rfl, _⟩ := h
    rfl
  · obtain ⟨B, p, l, u, m, ss, us, rfl, hM, kk⟩ := h
    refine ⟨_, (pss_cons (ps_asg (pe_fld (pv 0) rfl) (pg_tup rfl (pgs_cons (pg_name (i := 1) sc_Mead_lengths.nd rfl (.inl rfl)) (pgs_cons (pg_name (i := 1) sc_Mead_lengths.nd rfl (.inl rfl)) (pgs_cons (pg_name (i := 2) sc_Mead_lengths.nd rfl (.inr rfl)) pgs_nil)))))
 (pss_one (ps_ret (pe_lock (pe_dct (own := [("tie", 3)]) (by rfl) (hu_of hr) sc_Mead_lengths.nd (pi_keys (pv 2)) (blkOk_by (own := [("tie", 3)]) (N := ["self", "_", "lengths", "tie"]) (sc := defScope s_Mead_lengths) (by decide +kernel)) (fun _ _ _ _ _ => (pg_name (i := 3) sc_Mead_lengths.nd rfl (.inl rfl))) (fun _ _ _ _ _ => pts_nil) (fun _ _ _ _ _ => (pv 3)) (fun _ _ _ _ _ => (pe_dget (hu_of hr) (pv 2) (pv 3) (fun _ _ => rfl)))))))), ?_⟩
    obtain ⟨dx, t, ep, ⟨⟨c, d, xs, dom, et, ec, hX, hF, hdm, _⟩, hG⟩⟩ := hM.ob
    refine ⟨_, rfl, p, _, dx, _, _, rfl, ep, T.cl_Mead, T.na_Mead__state, mfl_state _ _ _, t, _, rfl, .inl (.inl et), rfl, _, _, rfl, _, _, rfl, _, _, rfl, rfl, ?_⟩
    have hdl := fd_few hF
    obtain ⟨⟨kv5, ek5, rk5⟩, nd5, sm5⟩ := hF
    refine ⟨d, _, ek5, True.intro, fun od5 => ?_⟩
    have sL5 : TupS H (upd H d (.frz od5 (.dT kv5))) := fun w ys e => by
      rw [upd_ne (ne_of e ek5 (fun z => nomatch z))]
      exact e
    refine ⟨_, rfl, d, od5, rfl, .inr ⟨kv5, upd_same, fun D2 hD2 => ?_⟩⟩
    have hDd : D2 ≠ d := fun e => by rw [e, upd_same] at hD2; cases hD2
    have hD3 : H D2 = none := by rw [upd_ne hDd] at hD2; exact hD2
    refine dct_keysT (fun i H' => Same (upd H d (.frz od5 (.dT kv5))) H' ∧ FD K H' D2 (dom.take i) m.f) ⟨same_new hD2, by rw [List.take_zero]; exact FD.nil upd_same⟩ (fun i H' _ ⟨s, _⟩ => s _ _ upd_same) ?_ ?_
    · rintro i k v' u H' hk ⟨s3, hFi⟩ hu
      obtain ⟨e, he, e1, e2⟩ := rk5.at hk
      have e1 : k = pk e := e1
      subst e1
      have hem : e ∈ dom := List.mem_of_getElem? he
      have hil := (List.getElem?_eq_some_iff.mp he).1
      have hd3 := s3 _ _ upd_same
      obtain ⟨va, ga, ⟨wa, ea, qa⟩⟩ := Ents.get rk5 hem
      have qa : PrAt K H' va (m.f e) := ⟨wa, ea, s3 _ _ (sL5 _ _ qa)⟩
      obtain ⟨⟨kz, ez, rz⟩, nz, sz⟩ := id hFi
      have hzl := rz.length
      rw [List.length_take] at hzl
      refine ⟨rfl, yes_read ?_⟩
      refine ⟨_, rfl, _, rfl, _, rfl, d, va, rfl, .inr ⟨kv5, pk e, u, .inr ⟨_, hd3⟩, rfl, hu, ga.symm⟩, kz, pk e, u, rfl, hu, ez, small200' (by omega), same_put s3 hD2, ?_⟩
      rw [take_more he]
      have hnew : e ∉ dom.take i := fun hm => by
        obtain ⟨j, hj⟩ := List.getElem?_of_mem hm
        have hjl := (List.getElem?_eq_some_iff.mp hj).1
        rw [List.length_take] at hjl
        rw [List.getElem?_take_of_lt (by omega)] at hj
        have := nodup_at nd5 hj he
        omega
      refine FD.val (FD.put nz sz ez rz hnew (sm5 _ hem) qa) fun q _ => ?_
      unfold setF
      split
      · next e' => rw [e']
      · rfl
    · rintro H' ⟨s3, hFi⟩
      rw [List.take_of_length_le (by have := rk5.length; omega)] at hFi
      have hd3 := s3 _ _ upd_same
      refine ⟨hd3, ?_⟩
      have hFu := FD.other (x := .dT kv5) hFi hd3 hDd (fun ys z => nomatch z)
      have s4 := Same.unlock ek5 s3
      exact kk _ D2 dom s4 hD3 hFu hdm
def sp_mdeeds (K : PySem.W.Frag) (C : Addr) : Sp := fun vs H Q _ => ∃ (A : List Addr) (p l u : Addr) (m : MSt) (ss us : List (Deed × MSt)), vs = [.ref p] ∧ MeadAt K C A H p l u m ss us ∧ ss.length ≤ 100 ∧ ∀ H' r xs, Same H H' → H r = none → H' r = some (.lst xs) → All2 (DeedAt K H') xs (ss.map (·.1)) → Q (.ref r) H'
theorem ok_Mead_deeds (T : Env K mg) : FnOk P w K mg base CX0 1 T.a_Mead_deeds T.fd_Mead_deeds ["self"] (sp_mdeeds K T.C_Mead) := by
  refine T.F_Mead_deeds.ok sc_Mead_deeds (fun vs H Q E h => ?_) (fun cdv A outer s H vs Q E hr h => ?_)
  · obtain ⟨B, p, l, u, m, ss, us, rfl, _⟩ := h
    rfl
  · obtain ⟨B, p, l, u, m, ss, us, rfl, hM, hsl, kk⟩ := h
    refine ⟨_, (pss_one (ps_ret (pe_lc (own := [("deed", 1), ("_", 2)]) (by rfl) sc_Mead_deeds.nd (pi_list (pe_fld (pv 0) rfl)) (blkOk_by (own := [("deed", 1), ("_", 2)]) (N := ["self", "deed", "_"]) (sc := defScope s_Mead_deeds) (by decide +kernel)) (fun _ _ _ _ _ => (pg_tupK (K := K) (n := 2) rfl rfl (pgs_cons (pg_name (i := 1) sc_Mead_deeds.nd rfl (.inl rfl)) (pgs_cons (pg_name (i := 2) sc_Mead_deeds.nd rfl (.inl rfl)) pgs_nil)))) (fun _ _ _ _ _ => pts_nil) (fun _ _ _ _ _ => (pv 1))))), ?_⟩
    obtain ⟨dx, t, ep, _⟩ := hM.ob
    obtain ⟨xs, el, hL⟩ := hM.st
    have hxl := hL.length
    refine ⟨_, rfl, p, _, dx, _, _, rfl, ep, T.cl_Mead, T.na_Mead__standing, mfl_standing _ _ _, l, rfl, ⟨_, .inl (.inl el)⟩, fun D hD => ?_⟩
    refine lc_list (K := K) (a := l) (xs := xs) (fun i H' => ∃ ws, Same H H' ∧ H' D = some (.lst ws) ∧ All2 (DeedAt K H') ws ((ss.take i).map (·.1))) ⟨[], same_new hD, upd_same, by rw [List.take_zero]; exact .nil⟩ ?_ ?_ ?_
    · rintro i H' _ ⟨ws, s3, _, _⟩
      exact .inl (.inl (s3 _ _ el))
    · rintro i x' H' hi ⟨ws, s3, hz, hW⟩
      obtain ⟨e, he, q, v, t2, rfl, eq, hd, _⟩ := hL.at hi
      have hwl := hW.length
      rw [List.length_map, List.length_take] at hwl
      refine ⟨q, _, rfl, .inl (.inl (s3 _ _ eq)), rfl, _, _, rfl, _, _, rfl, rfl, rfl, yes_read ?_⟩
      have hdv := hd.tups (TupS.of s3)
      obtain ⟨qv, xv, rfl, ev⟩ := hdv.tup
      refine ⟨_, rfl, ws, hz, small200' (by omega), ws ++ [.ref qv], same_put s3 hD, upd_same, ?_⟩
      have tp := TupS.put (o := .lst (ws ++ [V.ref qv])) hz
      rw [take_more he, List.map_append]
      exact (All2.mono hW fun _ _ h => h.tups tp).app (.one (hdv.tups tp))
    · rintro H' ⟨ws, s3, hz, hW⟩
      rw [List.take_of_length_le (by omega)] at hW
      exact kk H' D ws s3 hD hz hW
/-! ### what is done to it -/
def sp_mdo (K : PySem.W.Frag) (C : Addr) : Sp := fun vs H Q _ => ∃ (A : List Addr) (p l u c d : Addr) (m m' : MSt) (ss us : List (Deed × MSt)) (v : V) (D : Deed) (xs : List V) (dom : List (Int × Int)), vs = [.ref p, v, .int m'.n, .ref c, .ref d] ∧ MeadAt K C A H p l u m ss us ∧ ss.length ≤ 100 ∧ DeedAt K H v D ∧
  H c = some (.lst xs) ∧ PrL K H xs m'.cut ∧ FD K H d dom m'.f ∧ (∀ q, q ∈ dom ↔ q ∈ tiesS m'.n m'.cut) ∧ MGood m' ∧ c ∉ l :: u :: A ∧
  ∀ H' u', But [p, l] H H' → H u' = none → MeadAt K C A H' p l u' m' (ss ++ [(D, m)]) [] → Q .non H'
theorem ok_Mead__do (T : Env K mg) : FnOk P w K mg base CX0 1 T.a_Mead__do T.fd_Mead__do ["self", "deed", "n", "cut", "lengths"] (sp_mdo K T.C_Mead) := by
  refine T.F_Mead__do.ok sc_Mead__do (fun vs H Q E h => ?_) (fun cdv A outer s H vs Q E hr h => ?_)
  · obtain ⟨B, p, l, u, c, d, m, m', ss, us, v, D, xs, dom, rfl, _⟩ := h
    rfl
  · obtain ⟨B, p, l, u, c, d, m, m', ss, us, v, D, xs, dom, rfl, hM, hsl, hD, hc, hX, hF, hdm, hG, hcn, kk⟩ := h
    refine ⟨_, (pss_cons (ps_expr (pe_bm PySem.F.plainAttrs_list PySem.F.slot_list_append PySem.F.type_list_append mt_append (pe_fld (pv 0) rfl) (pa_cons (pe_tup (pa_cons (pv 1) (pa_cons (pe_fld (pv 0) rfl) pa_nil))) pa_nil)))
 (pss_cons (ps_fld (pv 0) (pe_lst pa_nil) rfl)
 (pss_one (ps_fld (pv 0) (pe_tup (pa_cons (pv 2) (pa_cons (pv 3) (pa_cons (pv 4) pa_nil)))) rfl)))), ?_⟩
    obtain ⟨dx, t, ep, hS⟩ := hM.ob
    obtain ⟨es, el, hL⟩ := hM.st
    have hel := hL.length
    have plm : p ∈ [p, l] := List.mem_cons_self
    have llm : l ∈ [p, l] := List.mem_cons_of_mem _ List.mem_cons_self
    have lp : l ≠ p := (ne_of ep el (fun z => nomatch z)).symm
    refine ⟨_, rfl, p, _, dx, _, _, rfl, ep, T.cl_Mead, T.na_Mead__standing, mfl_standing _ _ _, .inl ⟨rfl, _, .inl (.inl el)⟩, _, rfl, _, rfl, p, _, dx, _, _, rfl, ep, T.cl_Mead, T.na_Mead__state, mfl_state _ _ _, small200 (by show 2 ≤ 200; decide), fun q hq => ?_⟩
    have s1 : Same H _ := same_new (o := .tup [v, .ref t]) hq
    have eq1 : (upd H q (.tup [v, .ref t])) q = some (.tup [v, .ref t]) := upd_same
    generalize upd H q (.tup [v, .ref t]) = H1 at *
    refine ⟨l, es, _, rfl, rfl, s1 _ _ el, small200' (by omega), ?_⟩
    have ep1 := s1 _ _ ep
    have b2 : But [p, l] H1 (upd H1 l (.lst (es ++ [.ref q]))) := (But.refl _ _).put llm
    have el2 : (upd H1 l (.lst (es ++ [.ref q]))) l = some (.lst (es ++ [.ref q])) := upd_same
    have ep2 : (upd H1 l (.lst (es ++ [.ref q]))) p = some (.ins T.C_Mead dx (mfl t l u)) := by rw [upd_ne lp.symm]; exact ep1
    generalize upd H1 l (.lst (es ++ [.ref q])) = H2 at *
    refine ⟨small200 (by show 0 ≤ 200; decide), fun u' hu => ?_⟩
    have s3 : Same H2 _ := same_new (o := .lst []) hu
    have b3 := b2.trans (But.of s3)
    have el3 := s3 _ _ el2
    have ep3 := s3 _ _ ep2
    have eu3 : (upd H2 u' (.lst [])) u' = some (.lst []) := upd_same
    have up : u' ≠ p := (ne_of_none ep2 hu).symm
    have hu1 : H1 u' = none := b2.back hu
    have hu0 : H u' = none := none_back s1 hu1
    generalize upd H2 u' (.lst []) = H3 at *
    refine ⟨_, rfl, p, T.C_Mead, dx, _, rfl, ep3, T.cl_Mead, T.na_Mead__undone, by rw [mfl_len]; decide, ?_⟩
    have b4 : But [p, l] H1 (upd H3 p (.ins T.C_Mead dx (putF "_undone" (.ref u') (mfl t l u)))) := b3.put plm
    have ep4 : (upd H3 p (.ins T.C_Mead dx (putF "_undone" (.ref u') (mfl t l u)))) p = some (.ins T.C_Mead dx (mfl t l u')) := by rw [upd_same, mfl_put_undone]
    have el4 : (upd H3 p (.ins T.C_Mead dx (putF "_undone" (.ref u') (mfl t l u)))) l = some (.lst (es ++ [.ref q])) := by rw [upd_ne lp]; exact el3
    have eu4 : (upd H3 p (.ins T.C_Mead dx (putF "_undone" (.ref u') (mfl t l u)))) u' = some (.lst []) := by rw [upd_ne up]; exact eu3
    generalize upd H3 p (.ins T.C_Mead dx (putF "_undone" (.ref u') (mfl t l u))) = H4 at *
    refine ⟨_, rfl, _, rfl, _, rfl, small200 (by show 3 ≤ 200; decide), fun t' ht => ?_⟩
    have s5 : Same H4 _ := same_new (o := .tup [.int m'.n, .ref c, .ref d]) ht
    have b5 := b4.trans (But.of s5)
    have ep5 := s5 _ _ ep4
    have el5 := s5 _ _ el4
    have eu5 := s5 _ _ eu4
    have tp : t' ≠ p := (ne_of_none ep4 ht).symm
    have et5 : (upd H4 t' (.tup [.int m'.n, .ref c, .ref d])) t' = some (.tup [.int m'.n, .ref c, .ref d]) := upd_same
    generalize upd H4 t' (.tup [.int m'.n, .ref c, .ref d]) = H5 at *
    refine ⟨_, rfl, p, T.C_Mead, dx, _, rfl, ep5, T.cl_Mead, T.na_Mead__state, by rw [mfl_len]; decide, ?_⟩
    have b6 : But [p, l] H1 (upd H5 p (.ins T.C_Mead dx (putF "_state" (.ref t') (mfl t l u')))) := b5.put plm
    have ep6 : (upd H5 p (.ins T.C_Mead dx (putF "_state" (.ref t') (mfl t l u')))) p = some (.ins T.C_Mead dx (mfl t' l u')) := by rw [upd_same, mfl_put_state]
    have el6 : (upd H5 p (.ins T.C_Mead dx (putF "_state" (.ref t') (mfl t l u')))) l = some (.lst (es ++ [.ref q])) := by rw [upd_ne lp]; exact el5
    have eu6 : (upd H5 p (.ins T.C_Mead dx (putF "_state" (.ref t') (mfl t l u')))) u' = some (.lst []) := by rw [upd_ne up]; exact eu5
    have et6 : (upd H5 p (.ins T.C_Mead dx (putF "_state" (.ref t') (mfl t l u')))) t' = some (.tup [.int m'.n, .ref c, .ref d]) := by rw [upd_ne tp]; exact et5
    show Q .non (upd H5 p (.ins T.C_Mead dx (putF "_state" (.ref t') (mfl t l u'))))
    generalize upd H5 p (.ins T.C_Mead dx (putF "_state" (.ref t') (mfl t l u'))) = H6 at *
    clear b2 b3 b4 b5 ep2 ep3 ep4 ep5 el2 el3 el4 el5 eu3 eu4 eu5 et5 s3 s5 ht hu
    have li1 : LI [p, l] H1 := fun b hb => by
      rcases List.mem_cons.mp hb with z | hb
      · exact .inr ⟨_, _, _, z ▸ ep1⟩
      · exact .inl ⟨_, (List.mem_singleton.mp hb) ▸ s1 _ _ el⟩
    have hs : ∀ x ∈ [p, l], x ∈ l :: u' :: B ∨ ∃ C dx fs, H1 x = some (.ins C dx fs) := fun x hx => by
      rcases List.mem_cons.mp hx with z | hx
      · exact .inr ⟨_, _, _, z ▸ ep1⟩
      · exact .inl ((List.mem_singleton.mp hx) ▸ List.mem_cons_self)
    have gk : ∀ b ∈ l :: u' :: B, b ∈ l :: u :: B ∨ H1 b = none := fun b hb => by
      rcases List.mem_cons.mp hb with z | hb
      · exact .inl (z ▸ List.mem_cons_self)
      · rcases List.mem_cons.mp hb with z | hb
        · exact .inr (z ▸ hu1)
        · exact .inl (List.mem_cons_of_mem _ (List.mem_cons_of_mem _ hb))
    have tS := li1.tups b6
    have cn : c ∉ [p, l] := fun z => by
      rcases List.mem_cons.mp z with z | z
      · rw [z, ep] at hc; cases hc
      · exact hcn ((List.mem_singleton.mp z) ▸ List.mem_cons_self)
    have cn2 : c ∉ l :: u' :: B := fun z => by
      rcases gk c z with z | z
      · exact hcn z
      · rw [s1 _ _ hc] at z; cases z
    refine kk H6 u' ((But.of s1).trans b6) hu0 ⟨⟨dx, t', ep6, ⟨⟨c, d, xs, dom, et6, b6.at (s1 _ _ hc) cn, (hX.mono s1).tups tS, li1.fd b6 (hF.mono s1), hdm, cn2⟩, hG⟩⟩, ⟨_, el6, ?_⟩, ⟨[], eu6, .nil⟩, ?_, hM.lA, ?_, hM.pA, ?_⟩
    · exact (All2.mono hL fun _ _ h => ((h.mono s1).grow gk).but li1 b6 hs).app (.one ⟨q, v, t, rfl, tS _ _ eq1, (hD.tups (TupS.of s1)).tups tS, ((hS.mono s1).grow gk).but li1 b6 hs⟩)
    · exact fun z => by rw [z] at el; rw [hu0] at el; cases el
    · intro hm
      obtain ⟨o, eo⟩ := hM.ex _ hm
      rw [hu0] at eo
      cases eo
    · intro b hb
      obtain ⟨o, eo⟩ := hM.ex _ hb
      exact (((But.of s1).trans b6) b o eo).1
def sp_mstretch (K : PySem.W.Frag) (C C1 C2 : Addr) : Sp := fun vs H Q E => ∃ (A : List Addr) (p l u : Addr) (m : MSt) (ss us : List (Deed × MSt)) (P : Int) (v : V) (x : Int × Int), vs = [.ref p, .int P, v] ∧ MeadAt K C A H p l u m ss us ∧ ss.length ≤ 100 ∧ PrAt K H v x ∧ (∀ q ∈ tiesS m.n m.cut, Frac 2000 (m.f q)) ∧ (isLen x = true → Frac 2000 x) ∧
  (¬ (0 ≤ P ∧ P < m.n) → ∀ H', Same H H' → E (.ref C1) none H') ∧ (0 ≤ P ∧ P < m.n → isLen x = false → ∀ H', Same H H' → E (.ref C2) none H') ∧
  (0 ≤ P ∧ P < m.n → isLen x = true → ∀ H' u', But [p, l] H H' → H u' = none → MeadAt K C A H' p l u' ⟨m.n, m.cut, mulF m.f P x⟩ (ss ++ [(.stretch P x, m)]) [] → Q .non H')
/-! ### a post set out: the mathematics -/
def sh (k b a : Int) : Int := if k < a then a + b else a
def shP (k b : Int) (p : Int × Int) : Int × Int := (sh k b p.1, sh k b p.2)
theorem up_eq {k a : Int} : (a ≤ k ∧ sh k 1 a = a) ∨ (k < a ∧ sh k 1 a = a + 1) := by
  unfold sh
  by_cases h : k < a
  · rw [if_pos h]; exact .inr ⟨h, rfl⟩
  · rw [if_neg h]; exact .inl ⟨by omega, rfl⟩
def dn (k a : Int) : Int := if k < a then a - 1 else a
theorem dn_up (k a : Int) : dn k (sh k 1 a) = a := by
  unfold dn
  rcases up_eq (k := k) (a := a) with ⟨h, e⟩ | ⟨h, e⟩
  · rw [e, if_neg (by omega)]
  · rw [e, if_pos (by omega)]; omega
theorem up_inj {k a b : Int} (h : sh k 1 a = sh k 1 b) : a = b := by rw [← dn_up k a, h, dn_up]
theorem upP_inj {k : Int} {p q : Int × Int} (h : shP k 1 p = shP k 1 q) : p = q := by
  obtain ⟨a, b⟩ := p
  obtain ⟨c, d⟩ := q
  obtain ⟨e1, e2⟩ := Prod.mk.inj h
  exact Prod.ext (up_inj e1) (up_inj e2)
def growT (k : Int) : Tr → Int → Tr
  | .lf, lo => if lo = k then .nd (k + 1) .lf .lf else .lf
  | .nd m l r, lo => .nd (sh k 1 m) (growT k l lo) (growT k r m)
theorem lf_next {n lo hi : Int} (h : TOk (inR n) lo hi .lf) (h0 : 0 ≤ lo) (h1 : hi ≤ n - 1) : hi = lo + 1 := by
  have a := h.1
  by_cases e : hi = lo + 1
  · exact e
  · exact absurd (show lo < lo + 1 ∧ lo + 1 < hi by omega) (h.2 (lo + 1) ⟨by omega, by omega⟩)
theorem growT_ok {n k : Int} (hk : 0 ≤ k) : ∀ {T : Tr} {lo hi : Int}, TOk (inR n) lo hi T → 0 ≤ lo → hi ≤ n - 1 → TOk (inR (n + 1)) (sh k 1 lo) (sh k 1 hi) (growT k T lo)
  | .lf, lo, hi, h, h0, h1 => by
    have e := lf_next h h0 h1
    subst e
    unfold growT
    rcases up_eq (k := k) (a := lo) with ⟨a1, a2⟩ | ⟨a1, a2⟩ <;> rcases up_eq (k := k) (a := lo + 1) with ⟨b1, b2⟩ | ⟨b1, b2⟩ <;> rw [a2, b2]
    · rw [if_neg (by omega)]; exact ⟨by omega, fun z _ => by omega⟩
    · rw [if_pos (by omega)]; exact ⟨⟨by omega, by omega⟩, ⟨by omega, fun z _ => by omega⟩, ⟨by omega, fun z _ => by omega⟩⟩
    · omega
    · rw [if_neg (by omega)]; exact ⟨by omega, fun z _ => by omega⟩
  | .nd m l r, lo, hi, ⟨sm, hl, hr⟩, h0, h1 => by
    have a1 := hl.lt
    have a2 := hr.lt
    refine ⟨?_, growT_ok hk hl h0 (by omega), growT_ok hk hr (by omega) h1⟩
    rcases up_eq (k := k) (a := m) with ⟨b1, b2⟩ | ⟨b1, b2⟩ <;> rw [b2] <;> exact ⟨by omega, by omega⟩
theorem growT_tie {n k : Int} (hk : 0 ≤ k) : ∀ {T : Tr} {lo hi : Int}, TOk (inR n) lo hi T → 0 ≤ lo → hi ≤ n - 1 → ∀ a b : Int, tie (sh k 1 lo) (sh k 1 hi) (growT k T lo) a b ↔ (∃ x y, tie lo hi T x y ∧ a = sh k 1 x ∧ b = sh k 1 y) ∨ (lo ≤ k ∧ k < hi ∧ ((a = k ∧ b = k + 1) ∨ (a = k + 1 ∧ b = k + 2)))
  | .lf, lo, hi, h, h0, h1, a, b => by
    have e := lf_next h h0 h1
    subst e
    have ex : (∃ x y, tie lo (lo + 1) .lf x y ∧ a = sh k 1 x ∧ b = sh k 1 y) ↔ a = sh k 1 lo ∧ b = sh k 1 (lo + 1) := ⟨fun ⟨x, y, ⟨e1, e2⟩, e3, e4⟩ => by rw [e3, e4, e1, e2]; exact ⟨rfl, rfl⟩, fun ⟨e1, e2⟩ => ⟨lo, lo + 1, ⟨rfl, rfl⟩, e1, e2⟩⟩
    rw [ex]
    unfold growT
    by_cases c : lo = k
    · subst c
      rw [if_pos rfl]
      rcases up_eq (k := lo) (a := lo) with ⟨a1, a2⟩ | ⟨a1, a2⟩
      · rcases up_eq (k := lo) (a := lo + 1) with ⟨b1, b2⟩ | ⟨b1, b2⟩
        · omega
        · rw [a2, b2]
          unfold tie tie
          constructor
          · rintro (z | z | z)
            · exact .inl z
            · exact .inr ⟨by omega, by omega, .inl z⟩
            · exact .inr ⟨by omega, by omega, .inr ⟨z.1, by omega⟩⟩
          · rintro (z | ⟨_, _, z | z⟩)
            · exact .inl z
            · exact .inr (.inl z)
            · exact .inr (.inr ⟨z.1, by omega⟩)
      · omega
    · rw [if_neg c]
      unfold tie
      exact ⟨.inl, fun z => z.elim id fun ⟨z1, z2, _⟩ => by omega⟩
  | .nd m l r, lo, hi, ⟨sm, hl, hr⟩, h0, h1, a, b => by
    have a1 := hl.lt
    have a2 := hr.lt
    have i1 := growT_tie hk hl h0 (by omega) a b
    have i2 := growT_tie hk hr (by omega) h1 a b
    show (a = sh k 1 lo ∧ b = sh k 1 hi) ∨ tie (sh k 1 lo) (sh k 1 m) (growT k l lo) a b ∨ tie (sh k 1 m) (sh k 1 hi) (growT k r m) a b ↔ _
    rw [i1, i2]
    constructor
    · rintro (⟨e1, e2⟩ | (⟨x, y, t, e⟩ | ⟨z1, z2, z⟩) | (⟨x, y, t, e⟩ | ⟨z1, z2, z⟩))
      · exact .inl ⟨lo, hi, .inl ⟨rfl, rfl⟩, e1, e2⟩
      · exact .inl ⟨x, y, .inr (.inl t), e⟩
      · exact .inr ⟨z1, by omega, z⟩
      · exact .inl ⟨x, y, .inr (.inr t), e⟩
      · exact .inr ⟨by omega, z2, z⟩
    · rintro (⟨x, y, (⟨e1, e2⟩ | t | t), e⟩ | ⟨z1, z2, z⟩)
      · subst e1; subst e2; exact .inl e
      · exact .inr (.inl (.inl ⟨x, y, t, e⟩))
      · exact .inr (.inr (.inl ⟨x, y, t, e⟩))
      · by_cases c : k < m
        · exact .inr (.inl (.inr ⟨z1, c, z⟩))
        · exact .inr (.inr (.inr ⟨by omega, z2, z⟩))
/-- the post behind the two -/
def aft (n k : Int) : Int := (k + 2) % (n + 1)
theorem aft_in {n k : Int} (hk : 0 ≤ k) (h : k < n - 1) : aft n k = k + 2 := Int.emod_eq_of_lt (by omega) (by omega)
theorem aft_last {n k : Int} (hn : 3 ≤ n) (h : k = n - 1) : aft n k = 0 := by
  unfold aft
  rw [show k + 2 = n + 1 by omega, Int.emod_self]
theorem pr_lt {a b : Int} (h : a ≤ b) : pr a b = (a, b) := by unfold pr; rw [Int.min_eq_left h, Int.max_eq_right h]
theorem pr_gt {a b : Int} (h : b ≤ a) : pr a b = (b, a) := by unfold pr; rw [Int.min_eq_right h, Int.max_eq_left h]
structure Aft (n k : Int) : Prop where
  e : (k < n - 1 ∧ pr k (aft n k) = (k, k + 2) ∧ pr (k + 1) (aft n k) = (k + 1, k + 2)) ∨ (k = n - 1 ∧ pr k (aft n k) = (0, n - 1) ∧ pr (k + 1) (aft n k) = (0, n))
theorem aft_ok {n k : Int} (hn : 3 ≤ n) (hk : 0 ≤ k) (h : k < n) : Aft n k := by
  by_cases c : k < n - 1
  · refine ⟨.inl ⟨c, ?_⟩⟩
    rw [aft_in hk c, pr_lt (by omega), pr_lt (by omega)]
    exact ⟨rfl, rfl⟩
  · refine ⟨.inr ⟨by omega, ?_⟩⟩
    rw [aft_last hn (by omega), pr_gt (by omega), pr_gt (by omega), show k = n - 1 by omega, show n - 1 + 1 = n by omega]
    exact ⟨rfl, rfl⟩
theorem grow_tree {n k : Int} {T : Tr} (hn : 3 ≤ n) (hk : 0 ≤ k) (h : k < n) (hT : TOk (inR n) 0 (n - 1) T) : ∃ T', TOk (inR (n + 1)) 0 n T' ∧ ∀ a b, tie 0 n T' a b ↔ (∃ x y, tie 0 (n - 1) T x y ∧ a = sh k 1 x ∧ b = sh k 1 y) ∨ (a, b) = (k, k + 1) ∨ (a, b) = pr (k + 1) (aft n k) := by
  rcases (aft_ok hn hk h).e with ⟨c, _, e2⟩ | ⟨c, _, e2⟩
  · have a0 : sh k 1 0 = 0 := (up_eq (k := k) (a := 0)).elim (·.2) fun z => by omega
    have an : sh k 1 (n - 1) = n := (up_eq (k := k) (a := n - 1)).elim (fun z => by omega) fun z => by omega
    have g1 := growT_ok hk hT (Int.le_refl 0) (Int.le_refl _)
    have g2 := growT_tie hk hT (Int.le_refl 0) (Int.le_refl _)
    rw [a0, an] at g1 g2
    refine ⟨_, g1, fun a b => (g2 a b).trans ?_⟩
    rw [e2, Prod.mk.injEq, Prod.mk.injEq]
    exact or_congr Iff.rfl ⟨fun z => z.2.2, fun z => ⟨hk, c, z⟩⟩
  · refine ⟨.nd (n - 1) T .lf, ⟨⟨by omega, by omega⟩, ?_, ⟨by omega, fun z _ => by omega⟩⟩, fun a b => ?_⟩
    · exact hT.more (fun z hz => ⟨hz.1, by have := hz.2; omega⟩) fun z hz g1 g2 => ⟨hz.1, by omega⟩
    · rw [e2, Prod.mk.injEq, Prod.mk.injEq]
      have ex : (∃ x y, tie 0 (n - 1) T x y ∧ a = sh k 1 x ∧ b = sh k 1 y) ↔ tie 0 (n - 1) T a b := by
        constructor
        · rintro ⟨x, y, t, e1, e3⟩
          have ti := tie_in hT t
          rcases up_eq (k := k) (a := x) with ⟨a1, a2⟩ | ⟨a1, a2⟩
          · rcases up_eq (k := k) (a := y) with ⟨b1, b2⟩ | ⟨b1, b2⟩
            · rw [e1, e3, a2, b2]; exact t
            · omega
          · omega
        · intro t
          have ti := tie_in hT t
          refine ⟨a, b, t, ?_, ?_⟩
          · exact ((up_eq (k := k) (a := a)).elim (·.2) fun z => by omega).symm
          · exact ((up_eq (k := k) (a := b)).elim (·.2) fun z => by omega).symm
      rw [ex]
      show (a = 0 ∧ b = n) ∨ tie 0 (n - 1) T a b ∨ (a = n - 1 ∧ b = n) ↔ _
      constructor
      · rintro (z | z | z)
        · exact .inr (.inr z)
        · exact .inl z
        · exact .inr (.inl ⟨by omega, by omega⟩)
      · rintro (z | z | z)
        · exact .inr (.inl z)
        · exact .inr (.inr ⟨by omega, by omega⟩)
        · exact .inl z
def cutG (n : Int) (cut : List (Int × Int)) (k : Int) : List (Int × Int) := sort2 (cut.map (shP k 1) ++ [pr k (aft n k)])
theorem grow_mem {n k : Int} {cut : List (Int × Int)} {T : Tr} (hn : 3 ≤ n) (hk : 0 ≤ k) (h : k < n) (hT : TOk (inR n) 0 (n - 1) T) (hR : ∀ a b, (a, b) ∈ cut ↔ tie 0 (n - 1) T a b ∧ a + 2 ≤ b ∧ ¬ (a = 0 ∧ b = n - 1)) (a b : Int) :
    (a, b) ∈ cutG n cut k ↔ ((∃ x y, tie 0 (n - 1) T x y ∧ a = sh k 1 x ∧ b = sh k 1 y) ∨ (a, b) = (k, k + 1) ∨ (a, b) = pr (k + 1) (aft n k)) ∧ a + 2 ≤ b ∧ ¬ (a = 0 ∧ b = n) := by
  have hA := (aft_ok hn hk h).e
  unfold cutG
  rw [sort2_mem, List.mem_append, List.mem_singleton, List.mem_map]
  constructor
  · rintro (⟨⟨x, y⟩, hp, e⟩ | e)
    · obtain ⟨t, c1, c2⟩ := (hR x y).mp hp
      have ti := tie_in hT t
      obtain ⟨e1, e2⟩ := Prod.mk.inj e
      have e1 : sh k 1 x = a := e1
      have e2 : sh k 1 y = b := e2
      refine ⟨.inl ⟨x, y, t, e1.symm, e2.symm⟩, ?_⟩
      rcases up_eq (k := k) (a := x) with ⟨a1, a2⟩ | ⟨a1, a2⟩ <;> rcases up_eq (k := k) (a := y) with ⟨b1, b2⟩ | ⟨b1, b2⟩ <;> exact ⟨by omega, by omega⟩
    · rcases hA with ⟨c, d1, d2⟩ | ⟨c, d1, d2⟩
      · rw [d1] at e
        obtain ⟨e1, e2⟩ := Prod.mk.inj e
        refine ⟨.inl ⟨k, k + 1, tie_adj hT ⟨by omega, by omega⟩ ⟨by omega, by omega⟩ ⟨by omega, by omega⟩ ⟨by omega, by omega⟩ (by omega) (fun z _ hh => by omega) (by omega) (by omega), ?_, ?_⟩, by omega, by omega⟩
        · exact e1.trans ((up_eq (k := k) (a := k)).elim (·.2) fun z => by omega).symm
        · refine e2.trans ?_
          rcases up_eq (k := k) (a := k + 1) with ⟨b1, b2⟩ | ⟨b1, b2⟩ <;> omega
      · rw [d1] at e
        obtain ⟨e1, e2⟩ := Prod.mk.inj e
        refine ⟨.inl ⟨0, n - 1, tie_root, ?_, ?_⟩, by omega, by omega⟩
        · exact e1.trans ((up_eq (k := k) (a := 0)).elim (·.2) fun z => by omega).symm
        · exact e2.trans ((up_eq (k := k) (a := n - 1)).elim (·.2) fun z => by omega).symm
  · rintro ⟨(⟨x, y, t, e1, e2⟩ | e | e), g1, g2⟩
    · have ti := tie_in hT t
      by_cases hc : (x, y) ∈ cut
      · exact .inl ⟨(x, y), hc, by rw [e1, e2]; rfl⟩
      · right
        have hc2 : ¬ (x + 2 ≤ y ∧ ¬ (x = 0 ∧ y = n - 1)) := fun z => hc ((hR x y).mpr ⟨t, z⟩)
        rcases up_eq (k := k) (a := x) with ⟨a1, a2⟩ | ⟨a1, a2⟩ <;> rcases up_eq (k := k) (a := y) with ⟨b1, b2⟩ | ⟨b1, b2⟩ <;> rcases hA with ⟨c, d1, d2⟩ | ⟨c, d1, d2⟩ <;> rw [d1, Prod.mk.injEq] <;> omega
    · rw [Prod.mk.injEq] at e
      omega
    · rcases hA with ⟨c, d1, d2⟩ | ⟨c, d1, d2⟩ <;> rw [d2, Prod.mk.injEq] at e <;> omega
theorem up_no {k a : Int} : sh k 1 a ≠ k + 1 := by rcases up_eq (k := k) (a := a) with ⟨a1, a2⟩ | ⟨a1, a2⟩ <;> omega
theorem growG {n k : Int} {cut : List (Int × Int)} (hC : IsCut n cut) (hk : 0 ≤ k) (h : k < n) : IsCut (n + 1) (cutG n cut k) ∧ ∀ q, q ∈ tiesS (n + 1) (cutG n cut k) ↔ (∃ p ∈ tiesS n cut, q = shP k 1 p) ∨ q = (k, k + 1) ∨ q = pr (k + 1) (aft n k) := by
  obtain ⟨hn, nd, T, hT, hR⟩ := hC
  obtain ⟨T', hT', ht⟩ := grow_tree hn hk h hT
  have hA := (aft_ok hn hk h).e
  have e0 : n + 1 - 1 = n := by omega
  have hR' : ∀ a b, (a, b) ∈ cutG n cut k ↔ tie 0 (n + 1 - 1) T' a b ∧ a + 2 ≤ b ∧ ¬ (a = 0 ∧ b = n + 1 - 1) := fun a b => by
    rw [e0, grow_mem hn hk h hT hR a b, ht a b]
  have hT2 : TOk (inR (n + 1)) 0 (n + 1 - 1) T' := by rw [e0]; exact hT'
  refine ⟨⟨by omega, ?_, T', hT2, hR'⟩, fun q => ?_⟩
  · refine sort2_nodup ?_
    rw [List.nodup_append]
    refine ⟨List.pairwise_map.mpr (nd.imp fun h e => h (upP_inj e)), by simp, fun u hu v hv => ?_⟩
    rw [List.mem_singleton.mp hv]
    obtain ⟨⟨x, y⟩, hp, rfl⟩ := List.mem_map.mp hu
    obtain ⟨t, c1, c2⟩ := (hR x y).mp hp
    have ti := tie_in hT t
    intro z
    unfold shP at z
    rcases up_eq (k := k) (a := x) with ⟨a1, a2⟩ | ⟨a1, a2⟩ <;> rcases up_eq (k := k) (a := y) with ⟨b1, b2⟩ | ⟨b1, b2⟩ <;> rcases hA with ⟨c, d1, d2⟩ | ⟨c, d1, d2⟩ <;> rw [d1, Prod.mk.injEq] at z <;> dsimp only at z <;> omega
  · obtain ⟨a, b⟩ := q
    show (a, b) ∈ sort2 _ ↔ _
    rw [sort2_mem, ties_iff (by omega) hT2 hR' a b, e0, ht a b]
    refine or_congr ?_ Iff.rfl
    constructor
    · rintro ⟨x, y, t, e1, e2⟩
      exact ⟨(x, y), sort2_mem.mpr ((ties_iff hn hT hR x y).mpr t), by rw [e1, e2]; rfl⟩
    · rintro ⟨⟨x, y⟩, hp, e⟩
      obtain ⟨e1, e2⟩ := Prod.mk.inj e
      exact ⟨x, y, (ties_iff hn hT hR x y).mp (sort2_mem.mp hp), e1, e2⟩
theorem cutG_len {n k : Int} {cut : List (Int × Int)} : (cutG n cut k).length = cut.length + 1 := by
  unfold cutG
  rw [sort2_len, List.length_append, List.length_map]
  rfl
/-- the lengths of a grown mead -/
def dnP (k : Int) (q : Int × Int) : Int × Int := (dn k q.1, dn k q.2)
theorem dnP_up (k : Int) (p : Int × Int) : dnP k (shP k 1 p) = p := by
  obtain ⟨a, b⟩ := p
  show (dn k (sh k 1 a), dn k (sh k 1 b)) = (a, b)
  rw [dn_up, dn_up]
def growF (n k : Int) (f : Int × Int → Int × Int) (x y : Int × Int) : Int × Int → Int × Int := setF (setF (fun q => f (dnP k q)) (k, k + 1) x) (pr (k + 1) (aft n k)) y
def growM (m : MSt) (k : Int) (x y : Int × Int) : MSt := ⟨m.n + 1, cutG m.n m.cut k, growF m.n k m.f x y⟩
theorem growM_good {m : MSt} {k : Int} {x y : Int × Int} (h : MGood m) (hk : 0 ≤ k) (hk2 : k < m.n) (h12 : m.n < 12) : MGood (growM m k x y) := by
  refine ⟨?_, ?_, (growG h.isC hk hk2).1, sort2_sorted _, ?_⟩
  · have := h.three; show 3 ≤ m.n + 1; omega
  · show m.n + 1 ≤ 12; omega
  · show ((cutG m.n m.cut k).length : Int) = m.n + 1 - 3
    rw [cutG_len]
    have := h.len
    omega
theorem growF_all {n k : Int} {f : Int × Int → Int × Int} {x y : Int × Int} {cut : List (Int × Int)} {R : Int × Int → Prop} (hC : IsCut n cut) (hk : 0 ≤ k) (h : k < n) (hf : ∀ q ∈ tiesS n cut, R (f q)) (hx : R x) (hy : R y) : ∀ q ∈ tiesS (n + 1) (cutG n cut k), R (growF n k f x y q) := fun q hq => by
  unfold growF setF
  split
  · exact hy
  split
  · exact hx
  rcases ((growG hC hk h).2 q).mp hq with ⟨p, hp, rfl⟩ | z | z
  · show R (f (dnP k (shP k 1 p)))
    rw [dnP_up]; exact hf p hp
  · contradiction
  · contradiction
/-- the ropes among the ties -/
theorem ropes_of {n : Int} {l : List (Int × Int)} (hC : IsCut n l) (q : Int × Int) : q ∈ tiesS n l ∧ ropeB n q = true ↔ q ∈ l := by
  have h3 := hC.three
  constructor
  · rintro ⟨hq, hr⟩
    rcases List.mem_append.mp (sort2_mem.mp hq) with z | z
    · unfold ropeB at hr
      unfold sidesL at z
      simp only [Bool.and_eq_true, decide_eq_true_eq, Bool.not_eq_true', decide_eq_false_iff_not] at hr
      rcases List.mem_append.mp z with z | z
      · obtain ⟨j, hj, rfl⟩ := List.mem_map.mp z
        have := hr.2.1
        dsimp only at this
        omega
      · exact absurd (List.mem_singleton.mp z) hr.2.2.2
    · exact z
  · intro hq
    refine ⟨sort2_mem.mpr (List.mem_append_right _ hq), ?_⟩
    have a := cut_lt hC hq
    have b := cut_side hC hq
    obtain ⟨x, y⟩ := q
    unfold ropeB
    dsimp only at *
    rw [decide_eq_true a.1, decide_eq_true a.2.1, decide_eq_true a.2.2, decide_eq_false (fun e => b (by have e1 := congrArg Prod.fst e; have e2 := congrArg Prod.snd e; dsimp only at e1 e2; omega))]
    rfl
theorem ropes_sorted {n : Int} {l dom : List (Int × Int)} (hC : IsCut n l) (hs : l.Pairwise le2) (nd : dom.Nodup) (hm : ∀ p, p ∈ dom ↔ p ∈ tiesS n l) : sort2 (dom.filter (ropeB n)) = l := by
  rw [← sort2_self hs]
  refine sort2_eq ((List.perm_ext_iff_of_nodup (nd.sublist List.filter_sublist) hC.nd).mpr fun q => ?_)
  rw [List.mem_filter, hm q]
  exact ropes_of hC q

/-! ### a post set out -/
def sp_shifted (K : PySem.W.Frag) : Sp := fun vs H Q _ => ∃ (d : Addr) (k b : Int) (dom : List (Int × Int)) (f g : Int × Int → Int × Int), vs = [.ref d, .int k, .int b] ∧ FD K H d dom f ∧ (dom.map (shP k b)).Nodup ∧ (∀ p ∈ dom, smallP (shP k b p)) ∧ (∀ p ∈ dom, g (shP k b p) = f p) ∧
  ∀ H' D, Same H H' → H D = none → FD K H' D (dom.map (shP k b)) g → Q (.ref D) H'
theorem ok_shifted (T : Env K mg) : FnOk P w K mg base CX0 1 T.a_shifted T.fd_shifted ["lengths", "post", "by"] (sp_shifted K) := by
  refine T.F_shifted.ok sc_shifted (fun vs H Q E h => ?_) (fun cdv A outer s H vs Q E hr h => ?_)
  · obtain ⟨d, k, b, dom, f, g, rfl, _⟩ := h
    rfl
  · obtain ⟨d, k, b, dom, f, g, rfl, hF, hnd, hsm, hg, kk⟩ := h
    refine ⟨_, (pss_one (ps_ret (pe_lock (pe_dct (own := [("a", 3), ("b", 4)]) (by rfl) (hu_of hr) sc_shifted.nd (pi_keys (pv 0)) (blkOk_by (own := [("a", 3), ("b", 4)]) (N := ["lengths", "post", "by", "a", "b"]) (sc := defScope s_shifted) (by decide +kernel)) (fun _ _ _ _ _ => (pg_tupK (K := K) (n := 2) rfl rfl (pgs_cons (pg_name (i := 3) sc_shifted.nd rfl (.inl rfl)) (pgs_cons (pg_name (i := 4) sc_shifted.nd rfl (.inl rfl)) pgs_nil)))) (fun _ _ _ _ _ => pts_nil) (fun _ _ _ _ _ => (pe_tup (pa_cons (pe_ifExp (pt_cmpR op_gt (pv 3) (pv 1) (nomark _)) (pe_op op_add (pv 3) (pv 2)) (pv 3)) (pa_cons (pe_ifExp (pt_cmpR op_gt (pv 4) (pv 1) (nomark _)) (pe_op op_add (pv 4) (pv 2)) (pv 4)) pa_nil)))) (fun _ _ _ _ _ => (pe_dget (hu_of hr) (pv 0) (pe_tup (pa_cons (pv 3) (pa_cons (pv 4) pa_nil))) (fun _ _ => rfl))))))), ?_⟩
    have hdl := fd_few hF
    obtain ⟨⟨kvs, ek, rk⟩, nd, sm⟩ := hF
    refine ⟨d, _, ek, True.intro, fun od => ?_⟩
    refine ⟨_, rfl, d, od, rfl, .inr ⟨kvs, upd_same, fun D hD => ?_⟩⟩
    have hDd : D ≠ d := fun e => by rw [e, upd_same] at hD; cases hD
    have hD2 : H D = none := by rw [upd_ne hDd] at hD; exact hD
    have sL : TupS H (upd H d (.frz od (.dT kvs))) := fun w ys e => by
      rw [upd_ne (ne_of e ek (fun z => nomatch z))]
      exact e
    refine dct_keysT (fun i H' => Same (upd H d (.frz od (.dT kvs))) H' ∧ FD K H' D ((dom.map (shP k b)).take i) g) ⟨same_new hD, by rw [List.take_zero]; exact FD.nil upd_same⟩ (fun i H' _ ⟨s, _⟩ => s _ _ upd_same) ?_ ?_
    · rintro i kx v' u H' hk ⟨s3, hFi⟩ hu
      obtain ⟨e, he, e1, e2⟩ := rk.at hk
      have e1 : kx = pk e := e1
      subst e1
      have hem : e ∈ dom := List.mem_of_getElem? he
      have hil := (List.getElem?_eq_some_iff.mp he).1
      have hd3 := s3 _ _ upd_same
      obtain ⟨va, ga, ⟨wa, ea, qa⟩⟩ := Ents.get rk hem
      have qa : PrAt K H' va (f e) := ⟨wa, ea, s3 _ _ (sL _ _ qa)⟩
      have hu' : H' u = some (.tup [.int e.1, .int e.2]) := hu
      have em : (dom.map (shP k b))[i]? = some (shP k b e) := by rw [List.getElem?_map, he]; rfl
      have hnew : shP k b e ∉ (dom.map (shP k b)).take i := fun hm => by
        obtain ⟨j, hj⟩ := List.getElem?_of_mem hm
        have hjl := (List.getElem?_eq_some_iff.mp hj).1
        rw [List.length_take, List.length_map] at hjl
        rw [List.getElem?_take_of_lt (by omega)] at hj
        have := nodup_at hnd hj em
        omega
      refine ⟨u, _, rfl, .inl (.inl hu'), rfl, _, _, rfl, _, _, rfl, rfl, rfl, yes_read ?_⟩
      have go : ∀ (a c : Int) (t q : Addr), shP k b e = (a, c) → H' t = none → (upd H' t (.tup [.int a, .int c])) q = none → ∃ kv1 k1 c1, V.ref t = V.ref c1 ∧ (upd (upd H' t (.tup [.int a, .int c])) q (.tup [.int e.1, .int e.2])) c1 = some (.tup (k1.map kV)) ∧ (upd (upd H' t (.tup [.int a, .int c])) q (.tup [.int e.1, .int e.2])) D = some (.dT kv1) ∧ kv1.length < sizeLine ∧
          Same (upd H d (.frz od (.dT kvs))) (upd (upd (upd H' t (.tup [.int a, .int c])) q (.tup [.int e.1, .int e.2])) D (.dT (putK kv1 k1 va))) ∧ FD K (upd (upd (upd H' t (.tup [.int a, .int c])) q (.tup [.int e.1, .int e.2])) D (.dT (putK kv1 k1 va))) D ((dom.map (shP k b)).take (i + 1)) g := by
        intro a c t q es ht hq
        have s4 : Same H' _ := same_new (o := .tup [.int a, .int c]) ht
        have s5 : Same (upd H' t (.tup [.int a, .int c])) _ := same_new (o := .tup [.int e.1, .int e.2]) hq
        have et := s5 _ _ (show (upd H' t (.tup [.int a, .int c])) t = some (.tup [.int a, .int c]) from upd_same)
        have s45 := s4.trans s5
        obtain ⟨⟨kz, ez, rz⟩, nz, sz⟩ := hFi.mono s45
        have hzl := rz.length
        rw [List.length_take, List.length_map] at hzl
        refine ⟨kz, pk (a, c), t, rfl, et, ez, small200' (by omega), same_put (s3.trans s45) hD, ?_⟩
        rw [take_more em, es]
        rw [es] at hnew
        have gsm := hsm e hem
        have gg := hg e hem
        rw [es] at gsm gg
        refine FD.val (FD.put nz sz ez rz hnew gsm (qa.mono s45)) fun z _ => ?_
        unfold setF
        split
        · next e' => rw [e', gg]
        · rfl
      by_cases c1 : k < e.1
      · refine ⟨_, rfl, _, rfl, _, _, rfl, rfl, _, rfl, iteDT c1 ?_⟩
        refine ⟨_, rfl, _, rfl, _, _, rfl, rfl, ?_⟩
        by_cases c2 : k < e.2
        · refine ⟨_, rfl, _, rfl, _, _, rfl, rfl, _, rfl, iteDT c2 ?_⟩
          refine ⟨_, rfl, _, rfl, _, _, rfl, rfl, ?_⟩
          refine ⟨small200 (by show 2 ≤ 200; decide), fun t ht => ?_⟩
          refine ⟨_, rfl, _, rfl, _, rfl, small200 (by show 2 ≤ 200; decide), fun q hq => ?_⟩
          exact ⟨d, va, rfl, .inr ⟨kvs, pk e, q, .inr ⟨_, ((same_new ht).trans (same_new hq)) _ _ hd3⟩, rfl, upd_same, ga.symm⟩, go _ _ t q (by unfold shP sh; rw [if_pos c1, if_pos c2]) ht hq⟩
        · refine ⟨_, rfl, _, rfl, _, _, rfl, rfl, _, rfl, iteDF c2 ?_⟩
          refine ⟨_, rfl, ?_⟩
          refine ⟨small200 (by show 2 ≤ 200; decide), fun t ht => ?_⟩
          refine ⟨_, rfl, _, rfl, _, rfl, small200 (by show 2 ≤ 200; decide), fun q hq => ?_⟩
          exact ⟨d, va, rfl, .inr ⟨kvs, pk e, q, .inr ⟨_, ((same_new ht).trans (same_new hq)) _ _ hd3⟩, rfl, upd_same, ga.symm⟩, go _ _ t q (by unfold shP sh; rw [if_pos c1, if_neg c2]) ht hq⟩
      · refine ⟨_, rfl, _, rfl, _, _, rfl, rfl, _, rfl, iteDF c1 ?_⟩
        refine ⟨_, rfl, ?_⟩
        by_cases c2 : k < e.2
        · refine ⟨_, rfl, _, rfl, _, _, rfl, rfl, _, rfl, iteDT c2 ?_⟩
          refine ⟨_, rfl, _, rfl, _, _, rfl, rfl, ?_⟩
          refine ⟨small200 (by show 2 ≤ 200; decide), fun t ht => ?_⟩
          refine ⟨_, rfl, _, rfl, _, rfl, small200 (by show 2 ≤ 200; decide), fun q hq => ?_⟩
          exact ⟨d, va, rfl, .inr ⟨kvs, pk e, q, .inr ⟨_, ((same_new ht).trans (same_new hq)) _ _ hd3⟩, rfl, upd_same, ga.symm⟩, go _ _ t q (by unfold shP sh; rw [if_neg c1, if_pos c2]) ht hq⟩
        · refine ⟨_, rfl, _, rfl, _, _, rfl, rfl, _, rfl, iteDF c2 ?_⟩
          refine ⟨_, rfl, ?_⟩
          refine ⟨small200 (by show 2 ≤ 200; decide), fun t ht => ?_⟩
          refine ⟨_, rfl, _, rfl, _, rfl, small200 (by show 2 ≤ 200; decide), fun q hq => ?_⟩
          exact ⟨d, va, rfl, .inr ⟨kvs, pk e, q, .inr ⟨_, ((same_new ht).trans (same_new hq)) _ _ hd3⟩, rfl, upd_same, ga.symm⟩, go _ _ t q (by unfold shP sh; rw [if_neg c1, if_neg c2]) ht hq⟩
    · rintro H' ⟨s3, hFi⟩
      rw [List.take_of_length_le (by have := rk.length; rw [List.length_map]; omega)] at hFi
      have hd3 := s3 _ _ upd_same
      refine ⟨hd3, ?_⟩
      have hFu := FD.other (x := .dT kvs) hFi hd3 hDd (fun ys z => nomatch z)
      have s4 := Same.unlock ek s3
      exact kk _ D s4 hD2 hFu
def sp_ramong (K : PySem.W.Frag) : Sp := fun vs H Q _ => ∃ (n : Int) (d : Addr) (dom : List (Int × Int)) (f : Int × Int → Int × Int), vs = [.int n, .ref d] ∧ FD K H d dom f ∧
  ∀ H' r xs, Same H H' → H r = none → H' r = some (.lst xs) → PrL K H' xs (sort2 (dom.filter (ropeB n))) → Q (.ref r) H'
theorem ok_ropes_among (T : Env K mg) : FnOk P w K mg base CX0 2 T.a_ropes_among T.fd_ropes_among ["n", "pairs"] (sp_ramong K) := by
  refine T.F_ropes_among.ok sc_ropes_among (fun vs H Q E h => ?_) (fun cdv A outer s H vs Q E hr h => ?_)
  · obtain ⟨n, d, dom, f, rfl, _⟩ := h
    rfl
  · obtain ⟨n, d, dom, f, rfl, hF, kk⟩ := h
    refine ⟨_, (pss_one (ps_ret (pe_lock (pe_callB cr_sort2 (by rfl) T.m_sorted (by decide +kernel) (pa_cons (pe_lc (own := [("a", 2), ("b", 3)]) (by rfl) sc_ropes_among.nd (pi_keys (pv 1)) (blkOk_by (own := [("a", 2), ("b", 3)]) (N := ["n", "pairs", "a", "b"]) (sc := defScope s_ropes_among) (by decide +kernel)) (fun _ _ _ _ _ => (pg_tupK (K := K) (n := 2) rfl rfl (pgs_cons (pg_name (i := 2) sc_ropes_among.nd rfl (.inl rfl)) (pgs_cons (pg_name (i := 3) sc_ropes_among.nd rfl (.inl rfl)) pgs_nil)))) (fun _ _ _ _ _ => (pts_one (pt_val (pe_call (ok_is_rope T) (hr.mono (by decide)) (by rfl) T.g_is_rope T.F_is_rope.kp T.b_is_rope .nil pass0 (pa_cons (pv 0) (pa_cons (pv 2) (pa_cons (pv 3) pa_nil))))))) (fun _ _ _ _ _ => (pe_tup (pa_cons (pv 2) (pa_cons (pv 3) pa_nil))))) pa_nil))))), ?_⟩
    have hdl := fd_few hF
    obtain ⟨⟨kvs, ek, rk⟩, nd, sm⟩ := hF
    refine ⟨d, _, ek, True.intro, fun od => ?_⟩
    have sL : TupS H (upd H d (.frz od (.dT kvs))) := fun w ys e => by
      rw [upd_ne (ne_of e ek (fun z => nomatch z))]
      exact e
    refine ⟨_, rfl, d, od, rfl, .inr ⟨kvs, upd_same, fun D hD => ?_⟩⟩
    have hDd : D ≠ d := fun e => by rw [e, upd_same] at hD; cases hD
    have hD2 : H D = none := by rw [upd_ne hDd] at hD; exact hD
    refine lc_it walk_keysT (fun i H' => ∃ ws, Same (upd H d (.frz od (.dT kvs))) H' ∧ H' D = some (.lst ws) ∧ PrL K H' ws ((dom.take i).filter (ropeB n))) ⟨[], same_new hD, upd_same, by rw [List.take_zero]; exact .nil⟩ (fun i H' _ ⟨_, s, _⟩ => s _ _ upd_same) ?_ ?_
    · rintro i x H' H3 hi ⟨ws, s3, hz, hW⟩ ⟨rfl, k, v, u, hk, rfl, hu⟩
      obtain ⟨e, he, e1, e2⟩ := rk.at hk
      have e1 : k = pk e := e1
      subst e1
      have hu' : H3 u = some (.tup [.int e.1, .int e.2]) := hu
      have hwl := hW.length
      have hfl : ((dom.take i).filter (ropeB n)).length < 200 := Nat.lt_of_le_of_lt (List.length_filter_le _ _) (by rw [List.length_take]; omega)
      refine ⟨u, _, rfl, .inl (.inl hu'), rfl, _, _, rfl, _, _, rfl, rfl, rfl, ?_⟩
      refine ⟨_, rfl, _, rfl, _, rfl, n, e.1, e.2, rfl, fun H4 s4 => ?_⟩
      refine ⟨_, rfl, ?_⟩
      show if ropeB n e = true then _ else _
      rw [take_more he, List.filter_append]
      by_cases c : ropeB n e = true
      · rw [if_pos c]
        refine ⟨_, rfl, _, rfl, small200 (by show 2 ≤ 200; decide), fun t ht => ?_⟩
        have s5 : Same H4 _ := same_new (o := .tup [.int e.1, .int e.2]) ht
        have et : (upd H4 t (.tup [.int e.1, .int e.2])) t = some (.tup [.int e.1, .int e.2]) := upd_same
        have s45 := s4.trans s5
        have ez := s45 _ _ hz
        refine ⟨ws, ez, small200' (by rw [hwl]; exact hfl), ws ++ [.ref t], same_put (s3.trans s45) hD, upd_same, ?_⟩
        have tp := TupS.put (o := .lst (ws ++ [V.ref t])) ez
        rw [List.filter_cons_of_pos c]
        exact ((hW.mono s45).tups tp).app (.one ⟨t, rfl, tp _ _ et⟩)
      · rw [if_neg c]
        refine ⟨ws, s3.trans s4, s4 _ _ hz, ?_⟩
        rw [List.filter_cons_of_neg c]
        show PrL K H4 ws (_ ++ [])
        rw [List.append_nil]
        exact hW.mono s4
    · rintro H' ⟨ws, s3, hz, hW⟩
      rw [List.take_of_length_le (by have := rk.length; omega)] at hW
      have hfl : (dom.filter (ropeB n)).length ≤ 200 := Nat.le_trans (List.length_filter_le _ _) (by omega)
      refine ⟨D, ws, _, rfl, .inl (.inl hz), hW, fun ys r hY hr2 => ?_⟩
      have hY : PrL K H' ys (sort2 (dom.filter (ropeB n))) := hY
      have s4 : Same H' _ := same_new (o := .lst ys) hr2
      have s34 := s3.trans s4
      have hrd : r ≠ d := fun z => by rw [z, s3 _ _ upd_same] at hr2; cases hr2
      have hr0 : H r = none := by
        have e := none_back s3 hr2
        rw [upd_ne hrd] at e
        exact e
      refine ⟨s34 _ _ upd_same, ?_⟩
      have s5 := Same.unlock ek s34
      refine kk _ r ys s5 hr0 (by rw [upd_ne hrd, upd_same]) (hY.tups fun t zs e => ?_)
      rw [upd_ne (ne_of e (s3 _ _ upd_same) (fun z => nomatch z)), upd_ne (ne_of_none e hr2)]
      exact e
def sp_mset (K : PySem.W.Frag) (C C1 C2 C3 : Addr) : Sp := fun vs H Q E => ∃ (A : List Addr) (p l u : Addr) (m : MSt) (ss us : List (Deed × MSt)) (k : Int) (v w : V) (x y : Int × Int), vs = [.ref p, .int k, v, w] ∧ MeadAt K C A H p l u m ss us ∧ ss.length ≤ 100 ∧ PrAt K H v x ∧ PrAt K H w y ∧
  (¬ (0 ≤ k ∧ k < m.n) → ∀ H', Same H H' → E (.ref C1) none H') ∧ (0 ≤ k ∧ k < m.n → (isLen x && isLen y) = false → ∀ H', Same H H' → E (.ref C2) none H') ∧
  (0 ≤ k ∧ k < m.n → (isLen x && isLen y) = true → ¬ m.n < 12 → ∀ H', Same H H' → E (.ref C3) none H') ∧
  (0 ≤ k ∧ k < m.n → (isLen x && isLen y) = true → m.n < 12 → ∀ H' u', But [p, l] H H' → H u' = none → MeadAt K C A H' p l u' (growM m k x y) (ss ++ [(.set k x y, m)]) [] → Q (.int (k + 1)) H')
theorem ok_Mead_set_out (T : Env K mg) : FnOk P w K mg base (L2.CX P w) 4 T.a_Mead_set_out T.fd_Mead_set_out ["self", "k", "one", "other"] (sp_mset K T.C_Mead T.C_NoPost T.C_NoFraction T.C_Full) := by
  refine T.F_Mead_set_out.okX sc_Mead_set_out (fun vs H Q E h => ?_) (fun cdv A outer s H vs Q E hr h => ?_)
  · obtain ⟨B, p, l, u, m, ss, us, k, v, w, x, y, rfl, _⟩ := h
    rfl
  · obtain ⟨B, p, l, u, m, ss, us, k, v, w', x, y, rfl, hM, hsl, hv, hw, k0, k1, k2, k3⟩ := h
    refine ⟨_, (pss_cons (ps_asg (pe_fld (pv 0) rfl) (pg_tup rfl (pgs_cons (pg_name (i := 4) sc_Mead_set_out.nd rfl (.inl rfl)) (pgs_cons (pg_name (i := 5) sc_Mead_set_out.nd rfl (.inl rfl)) (pgs_cons (pg_name (i := 6) sc_Mead_set_out.nd rfl (.inl rfl)) pgs_nil)))))
 (pss_cons (ps_expr (pe_callS (ok_need_post T) (hr.mono (by decide)) (by rfl) T.g_need_post T.F_need_post.kp T.b_need_post (fun σ => passAt (takes_of rfl rfl rfl rfl) σ) (pa_cons (pv 4) (pa_cons (pv 1) pa_nil))))
 (pss_cons (ps_if (pt_not (PW.pt (pw_and (pt_val (pe_call (ok_is_length T) (hr.mono (by decide)) (by rfl) T.g_is_length T.F_is_length.kp T.b_is_length .nil pass0 (pa_cons (pv 2) pa_nil))) (pw_and1 (pt_val (pe_call (ok_is_length T) (hr.mono (by decide)) (by rfl) T.g_is_length T.F_is_length.kp T.b_is_length .nil pass0 (pa_cons (pv 3) pa_nil)))))))
 (pss_one (ps_raise rfl (takes_of rfl rfl rfl rfl) (pmk_own PySem.F.excBase_ValueError T.x_NoFraction T.c_NoFraction T.k_NoFraction (raises_own T.bs_NoFraction T.ty_NoFraction) rfl)))
 pss_nil)
 (pss_cons (ps_if (pt_cmpR op_ge (pv 4) (pe_glob (v := .int 12) rfl T.m_MOST_POSTS ⟨_, rfl⟩) (nomark _))
 (pss_one (ps_raise rfl (takes_of rfl rfl rfl rfl) (pmk_own PySem.F.excBase_ValueError T.x_Full T.c_Full T.k_Full (raises_own T.bs_Full T.ty_Full) rfl)))
 pss_nil)
 (pss_cons (ps_set (i := 7) sc_Mead_set_out.nd rfl (.inl rfl) (pe_call (ok_shifted T) (hr.mono (by decide)) (by rfl) T.g_shifted T.F_shifted.kp T.b_shifted .nil pass0 (pa_cons (pv 6) (pa_cons (pv 1) (pa_cons pe_int pa_nil)))))
 (pss_cons (ps_dput (hu_of hr) (pv 7) (pe_tup (pa_cons (pv 1) (pa_cons (pe_op op_add (pv 1) pe_int) pa_nil))) (pv 2) rfl)
 (pss_cons (ps_dput (hu_of hr) (pv 7) (pe_call (ok_pair_of T) (hr.mono (by decide)) (by rfl) T.g_pair_of T.F_pair_of.kp T.b_pair_of .nil pass0 (pa_cons (pe_op op_add (pv 1) pe_int) (pa_cons (pe_op op_mod (pe_op op_add (pv 1) pe_int) (pe_op op_add (pv 4) pe_int)) pa_nil))) (pv 3) rfl)
 (pss_cons (ps_expr (pe_meth (pv 0) T.cl_Mead T.me_Mead__do (ok_Mead__do T) (hr.mono (by decide)) T.b_Mead__do .nil pass0 (pa_cons (pe_tup (pa_cons pe_str (pa_cons (pv 1) (pa_cons (pv 2) (pa_cons (pv 3) pa_nil))))) (pa_cons (pe_op op_add (pv 4) pe_int) (pa_cons (pe_call (ok_ropes_among T) (hr.mono (by decide)) (by rfl) T.g_ropes_among T.F_ropes_among.kp T.b_ropes_among .nil pass0 (pa_cons (pe_op op_add (pv 4) pe_int) (pa_cons (pv 7) pa_nil))) (pa_cons (pv 7) pa_nil))))))
 (pss_one (ps_ret (pe_op op_add (pv 1) pe_int))))))))))), ?_⟩
    obtain ⟨dx, t, ep, ⟨⟨c, d, xs, dom, et, ec, hX, hF, hdm, hcn⟩, hG⟩⟩ := hM.ob
    refine ⟨_, rfl, p, _, dx, _, _, rfl, ep, T.cl_Mead, T.na_Mead__state, mfl_state _ _ _, t, _, rfl, .inl (.inl et), rfl, _, _, rfl, _, _, rfl, _, _, rfl, rfl, ?_⟩
    refine ⟨_, rfl, _, rfl, m.n, k, rfl, k0, fun h0 h1 => ?_⟩
    refine ⟨_, rfl, v, x, rfl, hv, ?_⟩
    cases ex : isLen x with
    | false =>
      refine ⟨_, rfl, iteF ?_⟩
      refine iteT ?_
      exact k1 ⟨h0, h1⟩ (by rw [ex]; rfl) H (Same.refl _)
    | true =>
    refine ⟨_, rfl, iteT ?_⟩
    refine ⟨_, rfl, w', y, rfl, hw, ?_⟩
    cases ey : isLen y with
    | false =>
      refine ⟨_, rfl, ?_⟩
      refine iteT ?_
      exact k1 ⟨h0, h1⟩ (by rw [ex, ey]; rfl) H (Same.refl _)
    | true =>
    refine ⟨_, rfl, ?_⟩
    refine iteF ?_
    have exy : (isLen x && isLen y) = true := by rw [ex, ey]; rfl
    refine ⟨_, rfl, _, _, rfl, rfl, _, rfl, ?_⟩
    show if decide (12 ≤ m.n) = true then _ else _
    by_cases c12 : m.n < 12
    case neg =>
      refine iteDT (by omega) ?_
      exact k2 ⟨h0, h1⟩ exy c12 H (Same.refl _)
    refine iteDF (by omega) ?_
    have k3 := k3 ⟨h0, h1⟩ exy c12
    have h3 := hG.three
    have hsm := ties_small hG.isC hG.most
    obtain ⟨gC, gT⟩ := growG hG.isC h0 h1
    have hGG := growM_good (x := x) (y := y) hG h0 h1 c12
    have hsm2 := ties_small gC (by have := hGG.most; exact this)
    have hnd : (dom.map (shP k 1)).Nodup := List.pairwise_map.mpr (hF.nd.imp fun h e => h (upP_inj e))
    have hAf := (aft_ok h3 h0 h1).e
    refine ⟨_, rfl, _, rfl, d, k, 1, dom, m.f, fun q => m.f (dnP k q), rfl, hF, hnd, (fun q hq => hsm2 _ ((gT _).mpr (.inl ⟨q, (hdm q).mp hq, rfl⟩))), (fun q _ => by show m.f (dnP k (shP k 1 q)) = m.f q; rw [dnP_up]), fun H1 D s1 hD hFD => ?_⟩
    have s01 := s1
    refine ⟨_, rfl, _, rfl, _, rfl, _, rfl, _, _, rfl, rfl, small200 (by show 2 ≤ 200; decide), fun q hq => ?_⟩
    have s2 : Same H1 _ := same_new (o := .tup [.int k, .int (k + 1)]) hq
    have eq2 : (upd H1 q (.tup [.int k, .int (k + 1)])) q = some (.tup [.int k, .int (k + 1)]) := upd_same
    generalize upd H1 q (.tup [.int k, .int (k + 1)]) = H2 at *
    have s12 := s1.trans s2
    have hD0 : H D = none := hD
    obtain ⟨⟨kz, ez, rz⟩, nz, sz⟩ := hFD.mono s2
    have hn1 : (k, k + 1) ∉ dom.map (shP k 1) := fun hm => by
      obtain ⟨e, _, he⟩ := List.mem_map.mp hm
      exact up_no (congrArg Prod.snd he)
    have hdl := fd_few hF
    have hzl := rz.length
    rw [List.length_map] at hzl
    have hp1 := FD.put nz sz ez rz hn1 (hsm2 _ ((gT _).mpr (.inr (.inl rfl)))) (hv.mono s12)
    refine ⟨D, _, rfl, DPut.t ez (key_pk (p := (k, k + 1)) eq2) (small200' (by omega)), ?_⟩
    have s3 : Same H _ := same_put (o := .dT (putK kz (pk (k, k + 1)) v)) s12 hD0
    generalize upd H2 D (.dT (putK kz (pk (k, k + 1)) v)) = H3 at *
    refine ⟨_, rfl, _, rfl, _, rfl, _, _, rfl, rfl, _, rfl, _, _, rfl, rfl, _, rfl, _, _, rfl, rfl, _, _, rfl, rfl, (by show (0 : Int) < m.n + 1; omega), k + 1, aft m.n k, rfl, fun tq htq => ?_⟩
    have s4 : Same H3 _ := same_new (o := .tup [.int (pr (k + 1) (aft m.n k)).1, .int (pr (k + 1) (aft m.n k)).2]) htq
    have etq : (upd H3 tq (.tup [.int (pr (k + 1) (aft m.n k)).1, .int (pr (k + 1) (aft m.n k)).2])) tq = some (.tup [.int (pr (k + 1) (aft m.n k)).1, .int (pr (k + 1) (aft m.n k)).2]) := upd_same
    generalize upd H3 tq (.tup [.int (pr (k + 1) (aft m.n k)).1, .int (pr (k + 1) (aft m.n k)).2]) = H4 at *
    have s34 := s3.trans s4
    obtain ⟨⟨ky, ey, ry⟩, ny, sy⟩ := hp1.mono s4
    have hn2 : pr (k + 1) (aft m.n k) ∉ dom.map (shP k 1) ++ [(k, k + 1)] := fun hm => by
      rcases List.mem_append.mp hm with z | z
      · obtain ⟨e, _, he⟩ := List.mem_map.mp z
        rcases hAf with ⟨a1, a2, a3⟩ | ⟨a1, a2, a3⟩ <;> rw [a3] at he
        · exact up_no (congrArg Prod.fst he)
        · exact up_no ((congrArg Prod.snd he).trans (show m.n = k + 1 by omega))
      · have z := List.mem_singleton.mp z
        rcases hAf with ⟨a1, a2, a3⟩ | ⟨a1, a2, a3⟩ <;> rw [a3, Prod.mk.injEq] at z <;> omega
    have hyl := ry.length
    rw [List.length_append, List.length_map] at hyl
    have hp2 := FD.put ny sy ey ry hn2 (hsm2 _ ((gT _).mpr (.inr (.inr rfl)))) (hw.mono s34)
    refine ⟨D, _, rfl, DPut.t ey (key_pk (p := pr (k + 1) (aft m.n k)) etq) (small200' (by rw [hyl]; show dom.length + 1 < 200; omega)), ?_⟩
    have s5 : Same H _ := same_put (o := .dT (putK ky (pk (pr (k + 1) (aft m.n k))) w')) s34 hD0
    generalize upd H4 D (.dT (putK ky (pk (pr (k + 1) (aft m.n k))) w')) = H5 at *
    have hdm2 : ∀ q, q ∈ (dom.map (shP k 1) ++ [(k, k + 1)]) ++ [pr (k + 1) (aft m.n k)] ↔ q ∈ tiesS (growM m k x y).n (growM m k x y).cut := fun q => by
      refine Iff.trans ?_ (gT q).symm
      rw [List.mem_append, List.mem_append, List.mem_singleton, List.mem_singleton, List.mem_map, or_assoc]
      refine or_congr ⟨?_, ?_⟩ Iff.rfl
      · rintro ⟨e, he, rfl⟩; exact ⟨e, (hdm e).mp he, rfl⟩
      · rintro ⟨e, he, rfl⟩; exact ⟨e, (hdm e).mpr he, rfl⟩
    have hp2 : FD K H5 D ((dom.map (shP k 1) ++ [(k, k + 1)]) ++ [pr (k + 1) (aft m.n k)]) (growM m k x y).f := hp2
    refine ⟨_, rfl, p, dx, _, rfl, s5 _ _ ep, mfl_no _ _ _ (by decide +kernel) (by decide +kernel) (by decide +kernel), ?_⟩
    refine ⟨_, rfl, _, rfl, _, rfl, small200 (by show 4 ≤ 200; decide), fun qd hqd => ?_⟩
    have s6 : Same H5 _ := same_new (o := .tup [.str "set", .int k, v, w']) hqd
    have eqd : (upd H5 qd (.tup [.str "set", .int k, v, w'])) qd = some (.tup [.str "set", .int k, v, w']) := upd_same
    generalize upd H5 qd (.tup [.str "set", .int k, v, w']) = H6 at *
    refine ⟨_, rfl, _, _, rfl, rfl, _, rfl, _, _, rfl, rfl, _, rfl, m.n + 1, D, _, _, rfl, hp2.mono s6, fun H7 r ys s7 hr0 er hY => ?_⟩
    have s57 := s6.trans s7
    have s07 := s5.trans s57
    rw [ropes_sorted gC (sort2_sorted _) hp2.nd hdm2] at hY
    refine ⟨_, rfl, B, p, l, u, r, D, m, growM m k x y, ss, us, .ref qd, .set k x y, ys, _, rfl, hM.mono s07, hsl, ⟨qd, v, w', rfl, s7 _ _ eqd, hv.mono s07, hw.mono s07⟩, er, hY, hp2.mono s57, hdm2, hGG, ?_, fun H8 u' b hu hM8 => ?_⟩
    · intro hm
      have hr00 : H r = none := none_back (s5.trans s6) hr0
      rcases List.mem_cons.mp hm with z | hm
      · obtain ⟨es, el, _⟩ := hM.st
        rw [← z, hr00] at el
        cases el
      rcases List.mem_cons.mp hm with z | hm
      · obtain ⟨es, el, _⟩ := hM.un
        rw [← z, hr00] at el
        cases el
      · obtain ⟨o, eo⟩ := hM.ex _ hm
        rw [hr00] at eo
        cases eo
    · exact ⟨_, rfl, _, _, rfl, rfl, k3 H8 u' ((But.of s07).trans b) (none_back s07 hu) hM8⟩

/-! ### a post drawn: the mathematics -/
theorem dv_eq {v a : Int} : (a ≤ v ∧ sh v (-1) a = a) ∨ (v < a ∧ sh v (-1) a = a - 1) := by
  unfold sh
  by_cases h : v < a
  · rw [if_pos h]; exact .inr ⟨h, by omega⟩
  · rw [if_neg h]; exact .inl ⟨by omega, rfl⟩
theorem dv_inj {v a b : Int} (ha : a ≠ v) (hb : b ≠ v) (h : sh v (-1) a = sh v (-1) b) : a = b := by
  rcases dv_eq (v := v) (a := a) with ⟨a1, a2⟩ | ⟨a1, a2⟩ <;> rcases dv_eq (v := v) (a := b) with ⟨b1, b2⟩ | ⟨b1, b2⟩ <;> omega
def shT (v : Int) : Tr → Tr
  | .lf => .lf
  | .nd m l r => if m = v then .lf else .nd (sh v (-1) m) (shT v l) (shT v r)
theorem lf_leaf {n lo hi : Int} : ∀ {T : Tr}, TOk (inR n) lo hi T → hi = lo + 1 → T = .lf
  | .lf, _, _ => rfl
  | .nd m l r, ⟨_, h1, h2⟩, e => by have := h1.lt; have := h2.lt; omega
theorem shT_ok {n v : Int} (hv0 : 0 ≤ v) (hv : v < n) : ∀ {T : Tr} {lo hi : Int}, TOk (inR n) lo hi T → 0 ≤ lo → hi ≤ n - 1 → lo ≠ v → hi ≠ v → (∀ a b, tie lo hi T a b → a + 2 ≤ b → a ≠ v ∧ b ≠ v) → TOk (inR (n - 1)) (sh v (-1) lo) (sh v (-1) hi) (shT v T)
  | .lf, lo, hi, h, h0, h1, hl, hh, F => by
    have e := lf_next h h0 h1
    subst e
    show _ < _ ∧ _
    rcases dv_eq (v := v) (a := lo) with ⟨a1, a2⟩ | ⟨a1, a2⟩ <;> rcases dv_eq (v := v) (a := lo + 1) with ⟨b1, b2⟩ | ⟨b1, b2⟩ <;> rw [a2, b2] <;> exact ⟨by omega, fun z _ => by omega⟩
  | .nd m l r, lo, hi, ⟨sm, h1', h2'⟩, h0, h1, hl, hh, F => by
    have a1 := h1'.lt
    have a2 := h2'.lt
    unfold shT
    by_cases e : m = v
    · rw [if_pos e]
      have f1 : m = lo + 1 := Classical.byContradiction fun z => (F lo m (.inr (.inl tie_root)) (by omega)).2 e
      have f2 : hi = m + 1 := Classical.byContradiction fun z => (F m hi (.inr (.inr tie_root)) (by omega)).1 e
      show _ < _ ∧ _
      rcases dv_eq (v := v) (a := lo) with ⟨a1, a2⟩ | ⟨a1, a2⟩ <;> rcases dv_eq (v := v) (a := hi) with ⟨b1, b2⟩ | ⟨b1, b2⟩ <;> rw [a2, b2] <;> exact ⟨by omega, fun z _ => by omega⟩
    · rw [if_neg e]
      refine ⟨?_, shT_ok hv0 hv h1' h0 (by omega) hl e fun a b t => F a b (.inr (.inl t)), shT_ok hv0 hv h2' (by omega) h1 e hh fun a b t => F a b (.inr (.inr t))⟩
      rcases dv_eq (v := v) (a := m) with ⟨b1, b2⟩ | ⟨b1, b2⟩ <;> rw [b2] <;> exact ⟨by omega, by omega⟩
theorem shT_tie {n v : Int} (hv0 : 0 ≤ v) (hv : v < n) : ∀ {T : Tr} {lo hi : Int}, TOk (inR n) lo hi T → 0 ≤ lo → hi ≤ n - 1 → lo ≠ v → hi ≠ v → (∀ a b, tie lo hi T a b → a + 2 ≤ b → a ≠ v ∧ b ≠ v) → ∀ a b, tie (sh v (-1) lo) (sh v (-1) hi) (shT v T) a b ↔ ∃ x y, tie lo hi T x y ∧ x ≠ v ∧ y ≠ v ∧ a = sh v (-1) x ∧ b = sh v (-1) y
  | .lf, lo, hi, h, h0, h1, hl, hh, F, a, b => ⟨fun ⟨e1, e2⟩ => ⟨lo, hi, ⟨rfl, rfl⟩, hl, hh, e1, e2⟩, fun ⟨x, y, ⟨e1, e2⟩, _, _, e3, e4⟩ => by subst e1; subst e2; exact ⟨e3, e4⟩⟩
  | .nd m l r, lo, hi, ⟨sm, h1', h2'⟩, h0, h1, hl, hh, F, a, b => by
    have a1 := h1'.lt
    have a2 := h2'.lt
    unfold shT
    by_cases e : m = v
    · rw [if_pos e]
      have f1 : m = lo + 1 := Classical.byContradiction fun z => (F lo m (.inr (.inl tie_root)) (by omega)).2 e
      have f2 : hi = m + 1 := Classical.byContradiction fun z => (F m hi (.inr (.inr tie_root)) (by omega)).1 e
      have e1 := lf_leaf h1' f1
      have e2 := lf_leaf h2' f2
      subst e1; subst e2
      constructor
      · rintro ⟨e3, e4⟩
        exact ⟨lo, hi, .inl ⟨rfl, rfl⟩, hl, hh, e3, e4⟩
      · rintro ⟨x, y, (⟨t1, t2⟩ | ⟨t1, t2⟩ | ⟨t1, t2⟩), n1, n2, e3, e4⟩
        · subst t1; subst t2; exact ⟨e3, e4⟩
        · exact absurd (t2.trans e) n2
        · exact absurd (t1.trans e) n1
    · rw [if_neg e]
      have i1 := shT_tie hv0 hv h1' h0 (by omega) hl e (fun a b t => F a b (.inr (.inl t))) a b
      have i2 := shT_tie hv0 hv h2' (by omega) h1 e hh (fun a b t => F a b (.inr (.inr t))) a b
      show (a = sh v (-1) lo ∧ b = sh v (-1) hi) ∨ tie (sh v (-1) lo) (sh v (-1) m) (shT v l) a b ∨ tie (sh v (-1) m) (sh v (-1) hi) (shT v r) a b ↔ _
      rw [i1, i2]
      constructor
      · rintro (⟨e1, e2⟩ | ⟨x, y, t, z⟩ | ⟨x, y, t, z⟩)
        · exact ⟨lo, hi, .inl ⟨rfl, rfl⟩, hl, hh, e1, e2⟩
        · exact ⟨x, y, .inr (.inl t), z⟩
        · exact ⟨x, y, .inr (.inr t), z⟩
      · rintro ⟨x, y, (⟨e1, e2⟩ | t | t), n1, n2, z⟩
        · subst e1; subst e2; exact .inl z
        · exact .inr (.inl ⟨x, y, t, n1, n2, z⟩)
        · exact .inr (.inr ⟨x, y, t, n1, n2, z⟩)
/-- no rope at the post -/
def Free (v : Int) (cut : List (Int × Int)) : Prop := ∀ p ∈ cut, p.1 ≠ v ∧ p.2 ≠ v
theorem shrink_tree {n v : Int} {cut : List (Int × Int)} {T : Tr} (hn : 4 ≤ n) (hv0 : 0 ≤ v) (hv : v < n) (hT : TOk (inR n) 0 (n - 1) T) (hR : ∀ a b, (a, b) ∈ cut ↔ tie 0 (n - 1) T a b ∧ a + 2 ≤ b ∧ ¬ (a = 0 ∧ b = n - 1)) (hf : Free v cut) :
    ∃ T', TOk (inR (n - 1)) 0 (n - 2) T' ∧ ∀ a b, tie 0 (n - 2) T' a b ↔ ∃ x y, tie 0 (n - 1) T x y ∧ x ≠ v ∧ y ≠ v ∧ a = sh v (-1) x ∧ b = sh v (-1) y := by
  have F : ∀ a b, tie 0 (n - 1) T a b → a + 2 ≤ b → ¬ (a = 0 ∧ b = n - 1) → a ≠ v ∧ b ≠ v := fun a b t h1 h2 => hf (a, b) ((hR a b).mpr ⟨t, h1, h2⟩)
  by_cases c0 : v = 0
  · subst c0
    cases T with
    | lf => have := lf_next hT (Int.le_refl 0) (Int.le_refl _); omega
    | nd m l r =>
      obtain ⟨sm, h1, h2⟩ := hT
      have a1 := h1.lt
      have a2 := h2.lt
      have em : m = 1 := Classical.byContradiction fun z => (F 0 m (.inr (.inl tie_root)) (by omega) (by omega)).1 rfl
      subst em
      have el := lf_leaf h1 (by omega)
      subst el
      have G : ∀ a b, tie 1 (n - 1) r a b → a + 2 ≤ b → a ≠ 0 ∧ b ≠ 0 := fun a b t _ => by have := tie_in h2 t; omega
      have k1 := shT_ok hv0 hv h2 (by omega) (Int.le_refl _) (by omega) (by omega) G
      have k2 := shT_tie hv0 hv h2 (by omega) (Int.le_refl _) (by omega) (by omega) G
      have e1 : sh 0 (-1) 1 = 0 := by decide
      have e2 : sh 0 (-1) (n - 1) = n - 2 := (dv_eq (v := 0) (a := n - 1)).elim (fun z => by omega) fun z => by omega
      rw [e1, e2] at k1 k2
      refine ⟨_, k1, fun a b => (k2 a b).trans ⟨?_, ?_⟩⟩
      · rintro ⟨x, y, t, z⟩
        exact ⟨x, y, .inr (.inr t), z⟩
      · rintro ⟨x, y, (⟨t1, t2⟩ | ⟨t1, t2⟩ | t), n1, z⟩
        · exact absurd t1 n1
        · exact absurd t1 n1
        · exact ⟨x, y, t, n1, z⟩
  by_cases c1 : v = n - 1
  · cases T with
    | lf => have := lf_next hT (Int.le_refl 0) (Int.le_refl _); omega
    | nd m l r =>
      obtain ⟨sm, h1, h2⟩ := hT
      have a1 := h1.lt
      have a2 := h2.lt
      have em : m = n - 2 := Classical.byContradiction fun z => (F m (n - 1) (.inr (.inr tie_root)) (by omega) (by omega)).2 c1.symm
      subst em
      have er := lf_leaf h2 (by omega)
      subst er
      have G : ∀ a b, tie 0 (n - 2) l a b → a + 2 ≤ b → a ≠ v ∧ b ≠ v := fun a b t _ => by have := tie_in h1 t; omega
      have k1 := shT_ok hv0 hv h1 (by omega) (by omega) (by omega) (by omega) G
      have k2 := shT_tie hv0 hv h1 (by omega) (by omega) (by omega) (by omega) G
      have e1 : sh v (-1) 0 = 0 := (dv_eq (v := v) (a := 0)).elim (·.2) fun z => by omega
      have e2 : sh v (-1) (n - 2) = n - 2 := (dv_eq (v := v) (a := n - 2)).elim (·.2) fun z => by omega
      rw [e1, e2] at k1 k2
      refine ⟨_, k1, fun a b => (k2 a b).trans ⟨?_, ?_⟩⟩
      · rintro ⟨x, y, t, z⟩
        exact ⟨x, y, .inr (.inl t), z⟩
      · rintro ⟨x, y, (⟨t1, t2⟩ | t | ⟨t1, t2⟩), n1, n2, z⟩
        · exact absurd (t2.trans c1.symm) n2
        · exact ⟨x, y, t, n1, n2, z⟩
        · exact absurd (t2.trans c1.symm) n2
  · have G : ∀ a b, tie 0 (n - 1) T a b → a + 2 ≤ b → a ≠ v ∧ b ≠ v := fun a b t h1 => by
      by_cases c : a = 0 ∧ b = n - 1
      · omega
      · exact F a b t h1 c
    have k1 := shT_ok hv0 hv hT (Int.le_refl 0) (Int.le_refl _) (by omega) (by omega) G
    have k2 := shT_tie hv0 hv hT (Int.le_refl 0) (Int.le_refl _) (by omega) (by omega) G
    have e1 : sh v (-1) 0 = 0 := (dv_eq (v := v) (a := 0)).elim (·.2) fun z => by omega
    have e2 : sh v (-1) (n - 1) = n - 2 := (dv_eq (v := v) (a := n - 1)).elim (fun z => by omega) fun z => by omega
    rw [e1, e2] at k1 k2
    exact ⟨_, k1, k2⟩
/-- the tie over the ear -/
def ear (n v : Int) : Int × Int := pr ((v - 1) % n) ((v + 1) % n)
theorem ear_eq {n v : Int} (hn : 4 ≤ n) (hv0 : 0 ≤ v) (hv : v < n) : (v = 0 ∧ ear n v = (1, n - 1)) ∨ (v = n - 1 ∧ 0 < v ∧ ear n v = (0, n - 2)) ∨ (0 < v ∧ v < n - 1 ∧ ear n v = (v - 1, v + 1)) := by
  unfold ear
  by_cases c0 : v = 0
  · subst c0
    refine .inl ⟨rfl, ?_⟩
    have e1 : ((0 : Int) - 1) % n = n - 1 := by
      rw [show (0 : Int) - 1 = (n - 1) + n * (-1) by omega, Int.add_mul_emod_self_left]
      exact Int.emod_eq_of_lt (by omega) (by omega)
    have e2 : ((0 : Int) + 1) % n = 1 := Int.emod_eq_of_lt (by omega) (by omega)
    rw [e1, e2, pr_gt (by omega)]
  have e1 : (v - 1) % n = v - 1 := Int.emod_eq_of_lt (by omega) (by omega)
  by_cases c1 : v = n - 1
  · refine .inr (.inl ⟨c1, by omega, ?_⟩)
    have e2 : (v + 1) % n = 0 := by rw [show v + 1 = n by omega, Int.emod_self]
    rw [e1, e2, pr_gt (by omega), show v - 1 = n - 2 by omega]
  · refine .inr (.inr ⟨by omega, by omega, ?_⟩)
    have e2 : (v + 1) % n = v + 1 := Int.emod_eq_of_lt (by omega) (by omega)
    rw [e1, e2, pr_lt (by omega)]
def cutD (n : Int) (cut : List (Int × Int)) (v : Int) : List (Int × Int) := sort2 ((cut.filter fun q => decide (q ≠ ear n v)).map (shP v (-1)))
theorem shrink_mem {n v : Int} {cut : List (Int × Int)} {T : Tr} (hn : 4 ≤ n) (hv0 : 0 ≤ v) (hv : v < n) (hT : TOk (inR n) 0 (n - 1) T) (hR : ∀ a b, (a, b) ∈ cut ↔ tie 0 (n - 1) T a b ∧ a + 2 ≤ b ∧ ¬ (a = 0 ∧ b = n - 1)) (hf : Free v cut) (a b : Int) :
    (a, b) ∈ cutD n cut v ↔ (∃ x y, tie 0 (n - 1) T x y ∧ x ≠ v ∧ y ≠ v ∧ a = sh v (-1) x ∧ b = sh v (-1) y) ∧ a + 2 ≤ b ∧ ¬ (a = 0 ∧ b = n - 2) := by
  have hE := ear_eq hn hv0 hv
  unfold cutD
  rw [sort2_mem, List.mem_map]
  constructor
  · rintro ⟨⟨x, y⟩, hp, e⟩
    obtain ⟨hp, hne⟩ := List.mem_filter.mp hp
    have hne := of_decide_eq_true hne
    obtain ⟨t, c1, c2⟩ := (hR x y).mp hp
    obtain ⟨n1, n2⟩ := hf _ hp
    have n1 : x ≠ v := n1
    have n2 : y ≠ v := n2
    have ti := tie_in hT t
    obtain ⟨e1, e2⟩ := Prod.mk.inj e
    have e1 : sh v (-1) x = a := e1
    have e2 : sh v (-1) y = b := e2
    refine ⟨⟨x, y, t, n1, n2, e1.symm, e2.symm⟩, ?_⟩
    rcases hE with ⟨d1, d2⟩ | ⟨d1, d3, d2⟩ | ⟨d1, d3, d2⟩ <;> rw [d2, ne_eq, Prod.mk.injEq] at hne <;> rcases dv_eq (v := v) (a := x) with ⟨a1, a2⟩ | ⟨a1, a2⟩ <;> rcases dv_eq (v := v) (a := y) with ⟨b1, b2⟩ | ⟨b1, b2⟩ <;> exact ⟨by omega, by omega⟩
  · rintro ⟨⟨x, y, t, n1, n2, e1, e2⟩, g1, g2⟩
    have ti := tie_in hT t
    refine ⟨(x, y), List.mem_filter.mpr ⟨(hR x y).mpr ⟨t, ?_⟩, decide_eq_true ?_⟩, by rw [e1, e2]; rfl⟩
    · rcases hE with ⟨d1, d2⟩ | ⟨d1, d3, d2⟩ | ⟨d1, d3, d2⟩ <;> rcases dv_eq (v := v) (a := x) with ⟨a1, a2⟩ | ⟨a1, a2⟩ <;> rcases dv_eq (v := v) (a := y) with ⟨b1, b2⟩ | ⟨b1, b2⟩ <;> exact ⟨by omega, by omega⟩
    · rcases hE with ⟨d1, d2⟩ | ⟨d1, d3, d2⟩ | ⟨d1, d3, d2⟩ <;> rw [d2, ne_eq, Prod.mk.injEq] <;> rcases dv_eq (v := v) (a := x) with ⟨a1, a2⟩ | ⟨a1, a2⟩ <;> rcases dv_eq (v := v) (a := y) with ⟨b1, b2⟩ | ⟨b1, b2⟩ <;> omega
theorem shrinkG {n v : Int} {cut : List (Int × Int)} (hC : IsCut n cut) (hn : 4 ≤ n) (hv0 : 0 ≤ v) (hv : v < n) (hf : Free v cut) : IsCut (n - 1) (cutD n cut v) ∧ ∀ q, q ∈ tiesS (n - 1) (cutD n cut v) ↔ ∃ p ∈ tiesS n cut, (p.1 ≠ v ∧ p.2 ≠ v) ∧ q = shP v (-1) p := by
  obtain ⟨h3, nd, T, hT, hR⟩ := hC
  obtain ⟨T', hT', ht⟩ := shrink_tree hn hv0 hv hT hR hf
  have e0 : n - 1 - 1 = n - 2 := by omega
  have hR' : ∀ a b, (a, b) ∈ cutD n cut v ↔ tie 0 (n - 1 - 1) T' a b ∧ a + 2 ≤ b ∧ ¬ (a = 0 ∧ b = n - 1 - 1) := fun a b => by
    rw [e0, shrink_mem hn hv0 hv hT hR hf a b, ht a b]
  have hT2 : TOk (inR (n - 1)) 0 (n - 1 - 1) T' := by rw [e0]; exact hT'
  refine ⟨⟨by omega, ?_, T', hT2, hR'⟩, fun q => ?_⟩
  · refine sort2_nodup (List.pairwise_map.mpr ((nd.sublist List.filter_sublist).imp_of_mem fun ha hb h e => h ?_))
    have fa := hf _ (List.mem_filter.mp ha).1
    have fb := hf _ (List.mem_filter.mp hb).1
    obtain ⟨e1, e2⟩ := Prod.mk.inj e
    exact Prod.ext (dv_inj fa.1 fb.1 e1) (dv_inj fa.2 fb.2 e2)
  · obtain ⟨a, b⟩ := q
    show (a, b) ∈ sort2 _ ↔ _
    rw [sort2_mem, ties_iff (by omega) hT2 hR' a b, e0, ht a b]
    constructor
    · rintro ⟨x, y, t, n1, n2, e1, e2⟩
      exact ⟨(x, y), sort2_mem.mpr ((ties_iff h3 hT hR x y).mpr t), ⟨n1, n2⟩, by rw [e1, e2]; rfl⟩
    · rintro ⟨⟨x, y⟩, hp, ⟨n1, n2⟩, e⟩
      obtain ⟨e1, e2⟩ := Prod.mk.inj e
      exact ⟨x, y, (ties_iff h3 hT hR x y).mp (sort2_mem.mp hp), n1, n2, e1, e2⟩
/-- there is a post without a rope -/
theorem ear_in {n : Int} : ∀ {T : Tr} {lo hi : Int}, TOk (inR n) lo hi T → 0 ≤ lo → hi ≤ n - 1 → lo + 2 ≤ hi → ∃ v, lo < v ∧ v < hi ∧ ∀ a b, tie lo hi T a b → a + 2 ≤ b → a ≠ v ∧ b ≠ v
  | .lf, lo, hi, h, h0, h1, g => by have := lf_next h h0 h1; omega
  | .nd m l r, lo, hi, ⟨sm, h1', h2'⟩, h0, h1, g => by
    have a1 := h1'.lt
    have a2 := h2'.lt
    by_cases cl : lo + 2 ≤ m
    · obtain ⟨v, v1, v2, hv⟩ := ear_in h1' h0 (by omega) cl
      refine ⟨v, v1, by omega, fun a b t hab => ?_⟩
      rcases t with ⟨e1, e2⟩ | t | t
      · omega
      · exact hv a b t hab
      · have := tie_in h2' t; omega
    by_cases cr : m + 2 ≤ hi
    · obtain ⟨v, v1, v2, hv⟩ := ear_in h2' (by omega) h1 cr
      refine ⟨v, by omega, v2, fun a b t hab => ?_⟩
      rcases t with ⟨e1, e2⟩ | t | t
      · omega
      · have := tie_in h1' t; omega
      · exact hv a b t hab
    · refine ⟨m, a1, a2, fun a b t hab => ?_⟩
      rcases t with ⟨e1, e2⟩ | t | t
      · omega
      · have := tie_in h1' t; omega
      · have := tie_in h2' t; omega
theorem free_one {n : Int} {cut : List (Int × Int)} (hC : IsCut n cut) : ∃ v, 0 ≤ v ∧ v < n ∧ Free v cut := by
  obtain ⟨h3, nd, T, hT, hR⟩ := hC
  obtain ⟨v, v1, v2, hv⟩ := ear_in hT (Int.le_refl 0) (Int.le_refl _) (by omega)
  refine ⟨v, by omega, by omega, fun p hp => ?_⟩
  obtain ⟨t, c1, c2⟩ := (hR p.1 p.2).mp hp
  exact hv _ _ t c1

theorem ear_tie {n v : Int} : ∀ {T : Tr} {lo hi : Int}, TOk (inR n) lo hi T → 0 ≤ lo → hi ≤ n - 1 → lo < v → v < hi → (∀ a b, tie lo hi T a b → a + 2 ≤ b → a ≠ v ∧ b ≠ v) → tie lo hi T (v - 1) (v + 1)
  | .lf, lo, hi, h, h0, h1, g1, g2, F => by have := lf_next h h0 h1; omega
  | .nd m l r, lo, hi, ⟨sm, h1', h2'⟩, h0, h1, g1, g2, F => by
    have a1 := h1'.lt
    have a2 := h2'.lt
    by_cases e : m = v
    · have f1 : m = lo + 1 := Classical.byContradiction fun z => (F lo m (.inr (.inl tie_root)) (by omega)).2 e
      have f2 : hi = m + 1 := Classical.byContradiction fun z => (F m hi (.inr (.inr tie_root)) (by omega)).1 e
      exact .inl ⟨by omega, by omega⟩
    · by_cases c : v < m
      · exact .inr (.inl (ear_tie h1' h0 (by omega) g1 c fun a b t => F a b (.inr (.inl t))))
      · exact .inr (.inr (ear_tie h2' (by omega) h1 (by omega) g2 fun a b t => F a b (.inr (.inr t))))
theorem ear_mem {n v : Int} {cut : List (Int × Int)} (hC : IsCut n cut) (hn : 4 ≤ n) (hv0 : 0 ≤ v) (hv : v < n) (hf : Free v cut) : ear n v ∈ cut := by
  obtain ⟨h3, nd, T, hT, hR⟩ := hC
  have F : ∀ a b, tie 0 (n - 1) T a b → a + 2 ≤ b → ¬ (a = 0 ∧ b = n - 1) → a ≠ v ∧ b ≠ v := fun a b t h1 h2 => hf (a, b) ((hR a b).mpr ⟨t, h1, h2⟩)
  rcases ear_eq hn hv0 hv with ⟨d1, d2⟩ | ⟨d1, d3, d2⟩ | ⟨d1, d3, d2⟩ <;> rw [d2]
  · cases T with
    | lf => have := lf_next hT (Int.le_refl 0) (Int.le_refl _); omega
    | nd m l r =>
      obtain ⟨sm, h1, h2⟩ := id hT
      have a1 := h1.lt
      have a2 := h2.lt
      have em : m = 1 := Classical.byContradiction fun z => (F 0 m (.inr (.inl tie_root)) (by omega) (by omega)).1 d1.symm
      subst em
      exact (hR 1 (n - 1)).mpr ⟨.inr (.inr tie_root), by omega, by omega⟩
  · cases T with
    | lf => have := lf_next hT (Int.le_refl 0) (Int.le_refl _); omega
    | nd m l r =>
      obtain ⟨sm, h1, h2⟩ := id hT
      have a1 := h1.lt
      have a2 := h2.lt
      have em : m = n - 2 := Classical.byContradiction fun z => (F m (n - 1) (.inr (.inr tie_root)) (by omega) (by omega)).2 d1.symm
      subst em
      exact (hR 0 (n - 2)).mpr ⟨.inr (.inl tie_root), by omega, by omega⟩
  · refine (hR _ _).mpr ⟨ear_tie hT (Int.le_refl 0) (Int.le_refl _) d1 d3 fun a b t h1 => ?_, by omega, by omega⟩
    by_cases c : a = 0 ∧ b = n - 1
    · omega
    · exact F a b t h1 c
theorem cut_part {n v : Int} {cut : List (Int × Int)} (nd : cut.Nodup) (hm : ear n v ∈ cut) : ((cut.filter fun q => decide (q ≠ ear n v)) ++ [ear n v]).Perm cut := by
  refine (List.perm_ext_iff_of_nodup ?_ nd).mpr fun q => ?_
  · rw [List.nodup_append]
    refine ⟨nd.sublist List.filter_sublist, by simp, fun a ha b hb => ?_⟩
    rw [List.mem_singleton.mp hb]
    exact of_decide_eq_true (List.mem_filter.mp ha).2
  · rw [List.mem_append, List.mem_filter, List.mem_singleton, decide_eq_true_eq]
    constructor
    · rintro (z | z)
      · exact z.1
      · rw [z]; exact hm
    · intro z
      by_cases c : q = ear n v
      · exact .inr c
      · exact .inl ⟨z, c⟩
theorem cutD_len {n v : Int} {cut : List (Int × Int)} (nd : cut.Nodup) (hm : ear n v ∈ cut) : (cutD n cut v).length + 1 = cut.length := by
  have e := (cut_part nd hm).length_eq
  rw [List.length_append] at e
  unfold cutD
  rw [sort2_len, List.length_map]
  exact e
def drawM (m : MSt) (v : Int) : MSt := ⟨m.n - 1, cutD m.n m.cut v, fun q => m.f (shP (v - 1) 1 q)⟩
theorem up_dv {v x : Int} (h : x ≠ v) : sh (v - 1) 1 (sh v (-1) x) = x := by
  rcases dv_eq (v := v) (a := x) with ⟨a1, a2⟩ | ⟨a1, a2⟩ <;> rw [a2]
  · rcases up_eq (k := v - 1) (a := x) with ⟨b1, b2⟩ | ⟨b1, b2⟩ <;> omega
  · rcases up_eq (k := v - 1) (a := x - 1) with ⟨b1, b2⟩ | ⟨b1, b2⟩ <;> omega
theorem upP_dv {v : Int} {p : Int × Int} (h : p.1 ≠ v ∧ p.2 ≠ v) : shP (v - 1) 1 (shP v (-1) p) = p := Prod.ext (up_dv h.1) (up_dv h.2)
theorem drawM_good {m : MSt} {v : Int} (h : MGood m) (hn : 4 ≤ m.n) (hv0 : 0 ≤ v) (hv : v < m.n) (hf : Free v m.cut) : MGood (drawM m v) := by
  refine ⟨?_, ?_, (shrinkG h.isC hn hv0 hv hf).1, sort2_sorted _, ?_⟩
  · show 3 ≤ m.n - 1; omega
  · have := h.most; show m.n - 1 ≤ 12; omega
  · show ((cutD m.n m.cut v).length : Int) = m.n - 1 - 3
    have e := cutD_len h.isC.nd (ear_mem h.isC hn hv0 hv hf)
    have := h.len
    omega
theorem drawF_all {m : MSt} {v : Int} {R : Int × Int → Prop} (h : MGood m) (hn : 4 ≤ m.n) (hv0 : 0 ≤ v) (hv : v < m.n) (hf : Free v m.cut) (hR : ∀ q ∈ tiesS m.n m.cut, R (m.f q)) : ∀ q ∈ tiesS (drawM m v).n (drawM m v).cut, R ((drawM m v).f q) := fun q hq => by
  obtain ⟨p, hp, hne, rfl⟩ := ((shrinkG h.isC hn hv0 hv hf).2 q).mp hq
  show R (m.f (shP (v - 1) 1 (shP v (-1) p)))
  rw [upP_dv hne]
  exact hR p hp
/-- the ties at a post without a rope -/
theorem free_tie {n v : Int} {cut : List (Int × Int)} (hC : IsCut n cut) (hf : Free v cut) {q : Int × Int} (hq : q ∈ tiesS n cut) (h : q.1 = v ∨ q.2 = v) : q ∈ sidesL n := by
  rcases List.mem_append.mp (sort2_mem.mp hq) with z | z
  · exact z
  · have := hf q z
    omega
/-- drawn and set out again -/
theorem back_cut {n v : Int} {cut : List (Int × Int)} (hC : IsCut n cut) (hs : cut.Pairwise le2) (hn : 4 ≤ n) (hv0 : 0 < v) (hv : v < n) (hf : Free v cut) : cutG (n - 1) (cutD n cut v) (v - 1) = cut := by
  have hm := ear_mem hC hn (by omega) hv hf
  have e1 : pr (v - 1) (aft (n - 1) (v - 1)) = ear n v := by
    unfold ear aft
    rw [Int.emod_eq_of_lt (show 0 ≤ v - 1 by omega) (by omega), show v - 1 + 2 = v + 1 by omega, show n - 1 + 1 = n by omega]
  unfold cutG
  rw [e1]
  refine (sort2_eq ?_).trans (sort2_self hs)
  refine List.Perm.trans (List.Perm.append_right _ ?_) (cut_part hC.nd hm)
  have e2 : ((cut.filter fun q => decide (q ≠ ear n v)).map (shP v (-1))).map (shP (v - 1) 1) = cut.filter fun q => decide (q ≠ ear n v) := by
    rw [List.map_map]
    refine (List.map_congr_left fun p hp => ?_).trans (List.map_id _)
    exact upP_dv (hf p (List.mem_filter.mp hp).1)
  have p2 := List.Perm.map (shP (v - 1) 1) (sort2_perm ((cut.filter fun q => decide (q ≠ ear n v)).map (shP v (-1))))
  rw [e2] at p2
  exact p2
theorem back_val {n v : Int} {cut : List (Int × Int)} {f : Int × Int → Int × Int} (hC : IsCut n cut) (hn : 4 ≤ n) (hv0 : 0 < v) (hv : v < n) (hf : Free v cut) {q : Int × Int} (hq : q ∈ tiesS n cut) :
    growF (n - 1) (v - 1) (fun q => f (shP (v - 1) 1 q)) (f (pr ((v - 1) % n) v)) (f (pr v ((v + 1) % n))) q = f q := by
  have e1 : pr (v - 1 + 1) (aft (n - 1) (v - 1)) = pr v ((v + 1) % n) := by
    unfold aft
    rw [show v - 1 + 1 = v by omega, show v - 1 + 2 = v + 1 by omega, show n - 1 + 1 = n by omega]
  have e2 : pr ((v - 1) % n) v = (v - 1, v - 1 + 1) := by
    rw [Int.emod_eq_of_lt (show 0 ≤ v - 1 by omega) (by omega), pr_lt (by omega), show v - 1 + 1 = v by omega]
  unfold growF setF
  rw [e1, e2]
  split
  · next h => rw [h]
  split
  · next h => rw [h]
  next n1 n2 =>
  have hne : q.1 ≠ v ∧ q.2 ≠ v := by
    refine Classical.byContradiction fun z => ?_
    have hs := free_tie hC hf hq (by omega)
    have ht := tie_bd hC hq
    unfold sidesL at hs
    rcases List.mem_append.mp hs with hs | hs
    · obtain ⟨j, hj, rfl⟩ := List.mem_map.mp hs
      have hj := mem_rng.mp hj
      dsimp only at z ht
      by_cases c : j = v
      · refine n1 ?_
        rw [Int.emod_eq_of_lt (show 0 ≤ v + 1 by omega) (by omega), pr_lt (by omega), c]
      · exact n2 (Prod.ext (by show j = v - 1; omega) (by show j + 1 = v - 1 + 1; omega))
    · have hs := List.mem_singleton.mp hs
      subst hs
      dsimp only at z
      refine n1 ?_
      have c : v = n - 1 := by omega
      rw [show v + 1 = n by omega, Int.emod_self, pr_gt (by omega), c]
  show f (shP (v - 1) 1 (dnP (v - 1) q)) = f q
  have e3 : shP (v - 1) 1 (dnP (v - 1) q) = q := by
    have h1 : ∀ x : Int, x ≠ v → sh (v - 1) 1 (dn (v - 1) x) = x := fun x hx => by
      unfold dn
      by_cases c : v - 1 < x
      · rw [if_pos c]
        rcases up_eq (k := v - 1) (a := x - 1) with ⟨b1, b2⟩ | ⟨b1, b2⟩ <;> omega
      · rw [if_neg c]
        rcases up_eq (k := v - 1) (a := x) with ⟨b1, b2⟩ | ⟨b1, b2⟩ <;> omega
    exact Prod.ext (h1 _ hne.1) (h1 _ hne.2)
  rw [e3]

/-! ### a post drawn -/
theorem free_any {v : Int} {cut : List (Int × Int)} : ((cut.map fun q => decide (v = q.1 ∨ v = q.2)).any id = true) ↔ ¬ Free v cut := by
  rw [List.any_eq_true]
  constructor
  · rintro ⟨b, hb, e⟩ hf
    obtain ⟨q, hq, rfl⟩ := List.mem_map.mp hb
    have e := of_decide_eq_true e
    have := hf q hq
    omega
  · intro h
    refine Classical.byContradiction fun z => h fun q hq => ?_
    refine Classical.byContradiction fun w => z ⟨_, List.mem_map.mpr ⟨q, hq, rfl⟩, decide_eq_true ?_⟩
    omega
theorem side_tie {n v : Int} {cut : List (Int × Int)} (hC : IsCut n cut) (hv0 : 0 ≤ v) (hv : v < n) : pr ((v - 1) % n) v ∈ tiesS n cut ∧ pr v ((v + 1) % n) ∈ tiesS n cut := by
  have h3 := hC.three
  have s1 : ∀ j : Int, 0 ≤ j → j < n - 1 → (j, j + 1) ∈ tiesS n cut := fun j h0 h1 => sort2_mem.mpr (List.mem_append_left _ (List.mem_append_left _ (List.mem_map.mpr ⟨j, mem_rng.mpr ⟨h0, h1⟩, rfl⟩)))
  have s2 : ((0 : Int), n - 1) ∈ tiesS n cut := sort2_mem.mpr (List.mem_append_left _ (List.mem_append_right _ (List.mem_singleton.mpr rfl)))
  constructor
  · by_cases c : v = 0
    · subst c
      have e1 : ((0 : Int) - 1) % n = n - 1 := by
        rw [show (0 : Int) - 1 = (n - 1) + n * (-1) by omega, Int.add_mul_emod_self_left]
        exact Int.emod_eq_of_lt (by omega) (by omega)
      rw [e1, pr_gt (by omega)]
      exact s2
    · rw [Int.emod_eq_of_lt (show 0 ≤ v - 1 by omega) (by omega), pr_lt (by omega)]
      have := s1 (v - 1) (by omega) (by omega)
      rw [show v - 1 + 1 = v by omega] at this
      exact this
  · by_cases c : v = n - 1
    · rw [show v + 1 = n by omega, Int.emod_self, pr_gt (by omega), c]
      exact s2
    · rw [Int.emod_eq_of_lt (show 0 ≤ v + 1 by omega) (by omega), pr_lt (by omega)]
      exact s1 v hv0 (by omega)
def awayP (v : Int) (q : Int × Int) : Bool := !decide (v = q.1 ∨ v = q.2)
theorem draw_dom {n v : Int} {cut dom : List (Int × Int)} (hC : IsCut n cut) (hn : 4 ≤ n) (hv0 : 0 ≤ v) (hv : v < n) (hf : Free v cut) (nd : dom.Nodup) (hdm : ∀ p, p ∈ dom ↔ p ∈ tiesS n cut) :
    ((dom.filter (awayP v)).map (shP v (-1))).Nodup ∧ ∀ q, q ∈ (dom.filter (awayP v)).map (shP v (-1)) ↔ q ∈ tiesS (n - 1) (cutD n cut v) := by
  have ha : ∀ q : Int × Int, awayP v q = true ↔ (q.1 ≠ v ∧ q.2 ≠ v) := fun q => by
    unfold awayP
    rw [Bool.not_eq_true', decide_eq_false_iff_not]
    omega
  refine ⟨?_, fun q => ?_⟩
  · refine List.pairwise_map.mpr ((nd.sublist List.filter_sublist).imp_of_mem fun ha1 hb1 h e => h ?_)
    have fa := (ha _).mp (List.mem_filter.mp ha1).2
    have fb := (ha _).mp (List.mem_filter.mp hb1).2
    obtain ⟨e1, e2⟩ := Prod.mk.inj e
    exact Prod.ext (dv_inj fa.1 fb.1 e1) (dv_inj fa.2 fb.2 e2)
  · rw [(shrinkG hC hn hv0 hv hf).2 q, List.mem_map]
    constructor
    · rintro ⟨p, hp, rfl⟩
      obtain ⟨h1, h2⟩ := List.mem_filter.mp hp
      exact ⟨p, (hdm p).mp h1, (ha p).mp h2, rfl⟩
    · rintro ⟨p, hp, h2, rfl⟩
      exact ⟨p, List.mem_filter.mpr ⟨(hdm p).mpr hp, (ha p).mpr h2⟩, rfl⟩
def sp_mdraw (K : PySem.W.Frag) (C C1 C2 C3 : Addr) : Sp := fun vs H Q E => ∃ (A : List Addr) (p l u : Addr) (m : MSt) (ss us : List (Deed × MSt)) (v : Int), vs = [.ref p, .int v] ∧ MeadAt K C A H p l u m ss us ∧ ss.length ≤ 100 ∧
  (¬ (0 ≤ v ∧ v < m.n) → ∀ H', Same H H' → E (.ref C1) none H') ∧ (0 ≤ v ∧ v < m.n → m.n ≤ 3 → ∀ H', Same H H' → E (.ref C2) none H') ∧
  (0 ≤ v ∧ v < m.n → ¬ m.n ≤ 3 → ¬ Free v m.cut → ∀ H', Same H H' → E (.ref C3) none H') ∧
  (0 ≤ v ∧ v < m.n → ¬ m.n ≤ 3 → Free v m.cut → ∀ H' u' r x y, But [p, l] H H' → H u' = none → H' r = some (.tup [x, y]) → PrAt K H' x (m.f (pr ((v - 1) % m.n) v)) → PrAt K H' y (m.f (pr v ((v + 1) % m.n))) → MeadAt K C A H' p l u' (drawM m v) (ss ++ [(.draw v, m)]) [] → Q (.ref r) H')
theorem ok_Mead_draw (T : Env K mg) : FnOk P w K mg base (L2.CX P w) 4 T.a_Mead_draw T.fd_Mead_draw ["self", "post"] (sp_mdraw K T.C_Mead T.C_NoPost T.C_Few T.C_HasRopes) := by
  refine T.F_Mead_draw.okX sc_Mead_draw (fun vs H Q E h => ?_) (fun cdv A outer s H vs Q E hr h => ?_)
  · obtain ⟨B, p, l, u, m, ss, us, v, rfl, _⟩ := h
    rfl
  · obtain ⟨B, p, l, u, m, ss, us, v, rfl, hM, hsl, k0, k1, k2, k3⟩ := h
    refine ⟨_, (pss_cons (ps_asg (pe_fld (pv 0) rfl) (pg_tup rfl (pgs_cons (pg_name (i := 2) sc_Mead_draw.nd rfl (.inl rfl)) (pgs_cons (pg_name (i := 3) sc_Mead_draw.nd rfl (.inl rfl)) (pgs_cons (pg_name (i := 4) sc_Mead_draw.nd rfl (.inr rfl)) pgs_nil)))))
 (pss_cons (ps_expr (pe_callS (ok_need_post T) (hr.mono (by decide)) (by rfl) T.g_need_post T.F_need_post.kp T.b_need_post (fun σ => passAt (takes_of rfl rfl rfl rfl) σ) (pa_cons (pv 2) (pa_cons (pv 1) pa_nil))))
 (pss_cons (ps_if (pt_cmpR op_le (pv 2) (pe_glob (v := .int 3) rfl T.m_LEAST_POSTS ⟨_, rfl⟩) (nomark _))
 (pss_one (ps_raise rfl (takes_of rfl rfl rfl rfl) (pmk_own PySem.F.excBase_ValueError T.x_Few T.c_Few T.k_Few (raises_own T.bs_Few T.ty_Few) rfl)))
 pss_nil)
 (pss_cons (ps_if (pt_val (pe_callB (cr_any rfl) (by rfl) T.m_any (by decide +kernel) (pa_cons (pe_lc (own := [("rope", 10)]) (by rfl) sc_Mead_draw.nd (pi_list (pv 3)) (blkOk_by (own := [("rope", 10)]) (N := ["self", "post", "n", "cut", "lengths", "to_ahead", "to_next", "others", "behind", "tie", "rope"]) (sc := defScope s_Mead_draw) (by decide +kernel)) (fun _ _ _ _ _ => (pg_name (i := 10) sc_Mead_draw.nd rfl (.inl rfl))) (fun _ _ _ _ _ => pts_nil) (fun _ _ _ _ _ => (pe_cmpR (r := rIn K false) op_in_seq (pv 1) (pv 10) (by rfl)))) pa_nil)))
 (pss_one (ps_raise rfl (takes_of rfl rfl rfl rfl) (pmk_own PySem.F.excBase_ValueError T.x_HasRopes T.c_HasRopes T.k_HasRopes (raises_own T.bs_HasRopes T.ty_HasRopes) rfl)))
 pss_nil)
 (pss_cons (ps_set (i := 5) sc_Mead_draw.nd rfl (.inl rfl) (pe_dget (hu_of hr) (pv 4) (pe_call (ok_pair_of T) (hr.mono (by decide)) (by rfl) T.g_pair_of T.F_pair_of.kp T.b_pair_of .nil pass0 (pa_cons (pe_op op_mod (pe_op op_sub (pv 1) pe_int) (pv 2)) (pa_cons (pv 1) pa_nil))) (fun _ _ => rfl)))
 (pss_cons (ps_set (i := 6) sc_Mead_draw.nd rfl (.inl rfl) (pe_dget (hu_of hr) (pv 4) (pe_call (ok_pair_of T) (hr.mono (by decide)) (by rfl) T.g_pair_of T.F_pair_of.kp T.b_pair_of .nil pass0 (pa_cons (pv 1) (pa_cons (pe_op op_mod (pe_op op_add (pv 1) pe_int) (pv 2)) pa_nil))) (fun _ _ => rfl)))
 (pss_cons (ps_lock (ps_setDct (i := 7) (own := [("tie", 9)]) (by rfl) (hu_of hr) sc_Mead_draw.nd rfl rfl (sw_trueD rfl rfl rfl (by decide +kernel)) (pi_keys (pv 4)) (blkOk_by (own := [("tie", 9)]) (N := ["self", "post", "n", "cut", "lengths", "to_ahead", "to_next", "others", "behind", "tie", "rope"]) (sc := defScope s_Mead_draw) (by decide +kernel)) (fun _ _ _ _ _ => (pg_name (i := 9) sc_Mead_draw.nd rfl (.inl rfl))) (fun _ _ _ _ _ => (pts_one (pt_cmpR (r := rIn K true) op_notIn_seq (pv 1) (pv 9) (by rfl)))) (fun _ _ _ _ _ => (pv 9)) (fun _ _ _ _ _ => (pe_dget (hu_of hr) (pv 4) (pv 9) (fun _ _ => rfl)))))
 (pss_cons (ps_set (i := 8) sc_Mead_draw.nd rfl (.inl rfl) (pe_call (ok_shifted T) (hr.mono (by decide)) (by rfl) T.g_shifted T.F_shifted.kp T.b_shifted .nil pass0 (pa_cons (pv 7) (pa_cons (pv 1) (pa_cons (pe_un un_neg pe_int) pa_nil)))))
 (pss_cons (ps_expr (pe_meth (pv 0) T.cl_Mead T.me_Mead__do (ok_Mead__do T) (hr.mono (by decide)) T.b_Mead__do .nil pass0 (pa_cons (pe_tup (pa_cons pe_str (pa_cons (pv 1) pa_nil))) (pa_cons (pe_op op_sub (pv 2) pe_int) (pa_cons (pe_call (ok_ropes_among T) (hr.mono (by decide)) (by rfl) T.g_ropes_among T.F_ropes_among.kp T.b_ropes_among .nil pass0 (pa_cons (pe_op op_sub (pv 2) pe_int) (pa_cons (pv 8) pa_nil))) (pa_cons (pv 8) pa_nil))))))
 (pss_one (ps_ret (pe_tup (pa_cons (pv 5) (pa_cons (pv 6) pa_nil)))))))))))))), ?_⟩
    obtain ⟨dx, t, ep, ⟨⟨c, d, xs, dom, et, ec, hX, hF, hdm, hcn⟩, hG⟩⟩ := hM.ob
    refine ⟨_, rfl, p, _, dx, _, _, rfl, ep, T.cl_Mead, T.na_Mead__state, mfl_state _ _ _, t, _, rfl, .inl (.inl et), rfl, _, _, rfl, _, _, rfl, _, _, rfl, rfl, ?_⟩
    refine ⟨_, rfl, _, rfl, m.n, v, rfl, k0, fun h0 h1 => ?_⟩
    refine ⟨_, rfl, _, _, rfl, rfl, _, rfl, ?_⟩
    show if decide (m.n ≤ 3) = true then _ else _
    by_cases c3 : m.n ≤ 3
    · refine iteDT c3 ?_
      exact k1 ⟨h0, h1⟩ c3 H (Same.refl _)
    refine iteDF c3 ?_
    have hxl := hX.length
    have h9 := hG.few
    refine ⟨_, rfl, c, rfl, ⟨_, .inl (.inl ec)⟩, fun D hD => ?_⟩
    refine lc_list (K := K) (a := c) (xs := xs) (fun i H' => Same H H' ∧ H' D = some (.lst (((m.cut.take i).map fun q => decide (v = q.1 ∨ v = q.2)).map V.bl))) ⟨same_new hD, upd_same⟩ (fun i H' _ ⟨s, _⟩ => .inl (.inl (s _ _ ec))) ?_ ?_
    · rintro i x' H' hi ⟨s3, hz⟩
      obtain ⟨e, he, w, rfl, hw⟩ := hX.at hi
      refine ⟨rfl, yes_read ?_⟩
      refine ⟨_, rfl, _, rfl, w, [.int e.1, .int e.2], rfl, .inr (.inl (.inl (s3 _ _ hw))), rfl, rfl, _, hz, small200' (by rw [List.length_map, List.length_map, List.length_take]; omega), same_put s3 hD, ?_⟩
      rw [upd_same, take_more he, List.map_append, List.map_append, inV2]
      rfl
    · rintro H' ⟨s3, hz⟩
      rw [List.take_of_length_le (by omega)] at hz
      refine ⟨D, m.cut.map fun q => decide (v = q.1 ∨ v = q.2), rfl, .inl (.inl hz), _, rfl, ?_⟩
      show if ((m.cut.map fun q => decide (v = q.1 ∨ v = q.2)).any id) = true then _ else _
      by_cases hf : Free v m.cut
      case neg =>
        rw [if_pos (free_any.mpr hf)]
        exact k2 ⟨h0, h1⟩ c3 hf H' s3
      rw [if_neg (fun z => free_any.mp z hf)]
      have k3 := k3 ⟨h0, h1⟩ c3 hf
      have h3 := hG.three
      have h4 : 4 ≤ m.n := by omega
      have hsm := ties_small hG.isC hG.most
      have hGD := drawM_good hG h4 h0 h1 hf
      obtain ⟨gC, gT⟩ := shrinkG hG.isC h4 h0 h1 hf
      have hsm2 := ties_small gC hGD.most
      obtain ⟨dnd, ddm⟩ := draw_dom hG.isC h4 h0 h1 hf hF.nd hdm
      obtain ⟨t1, t2⟩ := side_tie hG.isC h0 h1
      have hF1 := hF.mono s3
      obtain ⟨⟨kvs, ek, rk⟩, nd, sm⟩ := id hF1
      obtain ⟨va, ga, hva⟩ := Ents.get rk ((hdm _).mpr t1)
      obtain ⟨vb, gb, hvb⟩ := Ents.get rk ((hdm _).mpr t2)
      refine ⟨_, rfl, _, rfl, _, _, rfl, rfl, _, rfl, _, _, rfl, rfl, (by show (0 : Int) < m.n; omega), _, rfl, (v - 1) % m.n, v, rfl, fun u1 hu1 => ?_⟩
      have s4 : Same H' _ := same_new (o := .tup [.int (pr ((v - 1) % m.n) v).1, .int (pr ((v - 1) % m.n) v).2]) hu1
      have e4 : (upd H' u1 (.tup [.int (pr ((v - 1) % m.n) v).1, .int (pr ((v - 1) % m.n) v).2])) u1 = some (.tup [.int (pr ((v - 1) % m.n) v).1, .int (pr ((v - 1) % m.n) v).2]) := upd_same
      generalize upd H' u1 (.tup [.int (pr ((v - 1) % m.n) v).1, .int (pr ((v - 1) % m.n) v).2]) = H4 at *
      refine ⟨d, va, rfl, .inr ⟨kvs, pk (pr ((v - 1) % m.n) v), u1, .inl (s4 _ _ ek), rfl, key_pk e4, ga.symm⟩, ?_⟩
      refine ⟨_, rfl, _, rfl, _, rfl, _, _, rfl, rfl, _, rfl, _, _, rfl, rfl, (by show (0 : Int) < m.n; omega), v, (v + 1) % m.n, rfl, fun u2 hu2 => ?_⟩
      have s5 : Same H4 _ := same_new (o := .tup [.int (pr v ((v + 1) % m.n)).1, .int (pr v ((v + 1) % m.n)).2]) hu2
      have e5 : (upd H4 u2 (.tup [.int (pr v ((v + 1) % m.n)).1, .int (pr v ((v + 1) % m.n)).2])) u2 = some (.tup [.int (pr v ((v + 1) % m.n)).1, .int (pr v ((v + 1) % m.n)).2]) := upd_same
      generalize upd H4 u2 (.tup [.int (pr v ((v + 1) % m.n)).1, .int (pr v ((v + 1) % m.n)).2]) = H5 at *
      have s45 := s4.trans s5
      refine ⟨d, vb, rfl, .inr ⟨kvs, pk (pr v ((v + 1) % m.n)), u2, .inl (s45 _ _ ek), rfl, key_pk e5, gb.symm⟩, ?_⟩
      have s05 := s3.trans s45
      have ek5 := s45 _ _ ek
      have hdl := fd_few hF
      refine ⟨d, _, ek5, True.intro, fun od5 => ?_⟩
      have sL5 : TupS H5 (upd H5 d (.frz od5 (.dT kvs))) := fun w ys e => by
        rw [upd_ne (ne_of e ek5 (fun z => nomatch z))]
        exact e
      have rk5 := Ents.tups (TupS.of s45) rk
      refine ⟨_, rfl, d, od5, rfl, .inr ⟨kvs, upd_same, fun D2 hD2 => ?_⟩⟩
      have hDd : D2 ≠ d := fun e => by rw [e, upd_same] at hD2; cases hD2
      have hD3 : H5 D2 = none := by rw [upd_ne hDd] at hD2; exact hD2
      refine dct_keysT (fun i H' => Same (upd H5 d (.frz od5 (.dT kvs))) H' ∧ FD K H' D2 ((dom.take i).filter (awayP v)) m.f) ⟨same_new hD2, by rw [List.take_zero]; exact FD.nil upd_same⟩ (fun i H' _ ⟨s, _⟩ => s _ _ upd_same) ?_ ?_
      · rintro i k v' u H' hk ⟨s3, hFi⟩ hu
        obtain ⟨e, he, e1, e2⟩ := rk5.at hk
        have e1 : k = pk e := e1
        subst e1
        have hem : e ∈ dom := List.mem_of_getElem? he
        have hil := (List.getElem?_eq_some_iff.mp he).1
        have hd3 := s3 _ _ upd_same
        obtain ⟨va', ga', ⟨wa, ea, qa⟩⟩ := Ents.get rk5 hem
        have qa : PrAt K H' va' (m.f e) := ⟨wa, ea, s3 _ _ (sL5 _ _ qa)⟩
        have hu' : H' u = some (.tup [.int e.1, .int e.2]) := hu
        obtain ⟨⟨kz, ez, rz⟩, nz, sz⟩ := id hFi
        have hzl := rz.length
        have hzl2 : kz.length < 170 := Nat.lt_of_le_of_lt (by rw [hzl]; exact List.length_filter_le _ _) (by rw [List.length_take]; omega)
        refine ⟨rfl, ?_⟩
        refine ⟨_, rfl, _, rfl, u, [.int e.1, .int e.2], rfl, .inr (.inl (.inl hu')), rfl, rfl, _, rfl, ?_⟩
        show if (!inV (V.int v) [V.int e.1, V.int e.2]) = true then _ else _
        rw [inV2, take_more he, List.filter_append]
        by_cases c : v = e.1 ∨ v = e.2
        · rw [decide_eq_true c]
          refine iteF ?_
          rw [List.filter_cons_of_neg (by unfold awayP; rw [decide_eq_true c]; decide)]
          show _ ∧ FD K H' D2 (_ ++ []) m.f
          rw [List.append_nil]
          exact ⟨s3, hFi⟩
        · rw [decide_eq_false c]
          refine iteT ?_
          rw [List.filter_cons_of_pos (by unfold awayP; rw [decide_eq_false c]; rfl)]
          refine ⟨_, rfl, _, rfl, _, rfl, d, va', rfl, .inr ⟨kvs, pk e, u, .inr ⟨_, hd3⟩, rfl, hu, ga'.symm⟩, kz, pk e, u, rfl, hu, ez, small200' (by omega), same_put s3 hD2, ?_⟩
          have hnew : e ∉ (dom.take i).filter (awayP v) := fun hm => by
            obtain ⟨j, hj⟩ := List.getElem?_of_mem (List.mem_filter.mp hm).1
            have hjl := (List.getElem?_eq_some_iff.mp hj).1
            rw [List.length_take] at hjl
            rw [List.getElem?_take_of_lt (by omega)] at hj
            have := nodup_at hF.nd hj he
            omega
          refine FD.val (FD.put nz sz ez rz hnew (sm _ hem) qa) fun q _ => ?_
          unfold setF
          split
          · next e' => rw [e']
          · rfl
      · rintro H6 ⟨s6, hFi⟩
        rw [List.take_of_length_le (by have := rk5.length; omega)] at hFi
        have hd3 := s6 _ _ upd_same
        refine ⟨hd3, ?_⟩
        have hFu := FD.other (x := .dT kvs) hFi hd3 hDd (fun ys z => nomatch z)
        have s7 := Same.unlock ek5 s6
        have s07 := s05.trans s7
        generalize upd H6 d (.dT kvs) = H7 at *
        have ha : ∀ q : Int × Int, awayP v q = true ↔ (q.1 ≠ v ∧ q.2 ≠ v) := fun q => by
          unfold awayP
          rw [Bool.not_eq_true', decide_eq_false_iff_not]
          omega
        refine ⟨_, rfl, _, rfl, _, rfl, D2, v, -1, dom.filter (awayP v), m.f, fun q => m.f (shP (v - 1) 1 q), rfl, hFu, dnd, (fun q hq => hsm2 _ ((ddm _).mp (List.mem_map.mpr ⟨q, hq, rfl⟩))), (fun q hq => by show m.f (shP (v - 1) 1 (shP v (-1) q)) = m.f q; rw [upP_dv ((ha q).mp (List.mem_filter.mp hq).2)]), fun H8 D3 s8 hD8 hF8 => ?_⟩
        have s08 := s07.trans s8
        have hF8 : FD K H8 D3 ((dom.filter (awayP v)).map (shP v (-1))) (drawM m v).f := hF8
        refine ⟨_, rfl, p, dx, _, rfl, s08 _ _ ep, mfl_no _ _ _ (by decide +kernel) (by decide +kernel) (by decide +kernel), ?_⟩
        refine ⟨_, rfl, small200 (by show 2 ≤ 200; decide), fun qd hqd => ?_⟩
        have s9 : Same H8 _ := same_new (o := .tup [.str "draw", .int v]) hqd
        have eqd : (upd H8 qd (.tup [.str "draw", .int v])) qd = some (.tup [.str "draw", .int v]) := upd_same
        generalize upd H8 qd (.tup [.str "draw", .int v]) = H9 at *
        refine ⟨_, rfl, _, _, rfl, rfl, _, rfl, _, _, rfl, rfl, _, rfl, m.n - 1, D3, _, _, rfl, hF8.mono s9, fun HA r ys sA hr0 er hY => ?_⟩
        have s9A := s9.trans sA
        have s0A := s08.trans s9A
        rw [ropes_sorted gC (sort2_sorted _) dnd ddm] at hY
        have hr00 : H r = none := none_back (s08.trans s9) hr0
        refine ⟨_, rfl, B, p, l, u, r, D3, m, drawM m v, ss, us, .ref qd, .draw v, ys, _, rfl, hM.mono s0A, hsl, ⟨qd, rfl, sA _ _ eqd⟩, er, hY, hF8.mono s9A, ddm, hGD, ?_, fun HB u' b hu hMB => ?_⟩
        · intro hm
          rcases List.mem_cons.mp hm with z | hm
          · obtain ⟨es, el, _⟩ := hM.st
            rw [← z, hr00] at el
            cases el
          rcases List.mem_cons.mp hm with z | hm
          · obtain ⟨es, el, _⟩ := hM.un
            rw [← z, hr00] at el
            cases el
          · obtain ⟨o, eo⟩ := hM.ex _ hm
            rw [hr00] at eo
            cases eo
        · refine ⟨_, rfl, _, rfl, small200 (by show 2 ≤ 200; decide), fun rr hrr => ?_⟩
          have sC : Same HB _ := same_new (o := .tup [va, vb]) hrr
          have liP : LI [p, l] HA := fun b hb => by
            have hMA := hM.mono s0A
            rcases List.mem_cons.mp hb with z | hb
            · obtain ⟨dx, t, e, _⟩ := hMA.ob
              exact .inr ⟨_, _, _, z ▸ e⟩
            · obtain ⟨es, el, _⟩ := hMA.st
              exact .inl ⟨_, (List.mem_singleton.mp hb) ▸ el⟩
          have tAB := liP.tups b
          have sH'A := ((s45.trans s7).trans s8).trans s9A
          exact k3 _ u' rr va vb (((But.of s0A).trans b).trans (But.of sC)) (none_back s0A hu) upd_same (((hva.mono sH'A).tups tAB).mono sC) (((hvb.mono sH'A).tups tAB).mono sC) (hMB.mono sC)

/-! ### answers -/
inductive Ans where
  | no (k : Int) | unit | post (k : Int) | rope (p : Int × Int) | sides (a b : Int × Int)
def AnsAt (K : PySem.W.Frag) (H : Hp) (v : V) : Ans → Prop
  | .no k => ∃ q, v = .ref q ∧ H q = some (.tup [.str "no", .int k])
  | .unit => ∃ q, v = .ref q ∧ H q = some (.tup [.str "yes", .non])
  | .post k => ∃ q, v = .ref q ∧ H q = some (.tup [.str "yes", .int k])
  | .rope p => ∃ q x, v = .ref q ∧ H q = some (.tup [.str "yes", x]) ∧ PrAt K H x p
  | .sides a b => ∃ q r x y, v = .ref q ∧ H q = some (.tup [.str "yes", .ref r]) ∧ H r = some (.tup [x, y]) ∧ PrAt K H x a ∧ PrAt K H y b
def ansD : Ans → PyData
  | .no k => .tuple [.str "no", .int k]
  | .unit => .tuple [.str "yes", .none]
  | .post k => .tuple [.str "yes", .int k]
  | .rope p => .tuple [.str "yes", dat2 p]
  | .sides a b => .tuple [.str "yes", .tuple [dat2 a, dat2 b]]
theorem AnsAt.tups {H H' : Hp} {v : V} (s : TupS H H') : ∀ {X : Ans}, AnsAt K H v X → AnsAt K H' v X
  | .no _, ⟨q, e, h⟩ => ⟨q, e, s _ _ h⟩
  | .unit, ⟨q, e, h⟩ => ⟨q, e, s _ _ h⟩
  | .post _, ⟨q, e, h⟩ => ⟨q, e, s _ _ h⟩
  | .rope _, ⟨q, x, e, h, k⟩ => ⟨q, x, e, s _ _ h, k.tups s⟩
  | .sides _ _, ⟨q, r, x, y, e, h, h2, k, k2⟩ => ⟨q, r, x, y, e, s _ _ h, s _ _ h2, k.tups s, k2.tups s⟩
theorem AnsAt.mono {H H' : Hp} {v : V} {X : Ans} (s : Same H H') (h : AnsAt K H v X) : AnsAt K H' v X := h.tups (TupS.of s)
theorem AnsAt.dp {H : Hp} {v : V} : ∀ {X : Ans}, AnsAt K H v X → Dp K H v (ansD X)
  | .no _, ⟨q, e, h⟩ => by subst e; exact .tup (.inl (.inl h)) (.cons (.str _) (.cons (.int _) .nil))
  | .unit, ⟨q, e, h⟩ => by subst e; exact .tup (.inl (.inl h)) (.cons (.str _) (.cons .non .nil))
  | .post _, ⟨q, e, h⟩ => by subst e; exact .tup (.inl (.inl h)) (.cons (.str _) (.cons (.int _) .nil))
  | .rope _, ⟨q, x, e, h, k⟩ => by subst e; exact .tup (.inl (.inl h)) (.cons (.str _) (.cons k.dp .nil))
  | .sides _ _, ⟨q, r, x, y, e, h, h2, k, k2⟩ => by subst e; exact .tup (.inl (.inl h)) (.cons (.str _) (.cons (.tup (.inl (.inl h2)) (.cons k.dp (.cons k2.dp .nil))) .nil))
theorem ansD_lay (X : Ans) : (ansD X).canLay0 = true := by cases X <;> simp [ansD, dat2, PyData.canLay0, PyData.canLayAll0] <;> decide +kernel
theorem ansD_depth (X : Ans) : (ansD X).depth ≤ 3 := by cases X <;> simp [ansD, dat2, PyData.depth, PyData.depthAll]
theorem ansD_sh (X : Ans) : SeqAt.shaped (ansD X) = true := by
  show ((ansD X).canLay0 && decide ((ansD X).depth ≤ 64)) = true
  rw [Bool.and_eq_true]
  exact ⟨ansD_lay X, decide_eq_true (by have := ansD_depth X; omega)⟩
def Ans.isNo : Ans → Bool
  | .no _ => true
  | _ => false
/-! ### the model -/
def turnM (m : MSt) (p : Int × Int) : MSt × Ans := match besL (tiesS m.n m.cut) m.n p.1 p.2 with
  | [x, y] => (⟨m.n, turnL m.n m.cut p, laidF m.f p x y⟩, .rope (x, y))
  | _ => (m, .no 0)
def mdl (m : MSt) : Deed → MSt × Ans
  | .turn a b => if pr a b ∈ m.cut then turnM m (pr a b) else (m, .no 2)
  | .stretch P x => if ¬ (0 ≤ P ∧ P < m.n) then (m, .no 1) else if x.1 < 1 then (m, .no 3) else (⟨m.n, m.cut, mulF m.f P x⟩, .unit)
  | .set k x y => if ¬ (0 ≤ k ∧ k < m.n) then (m, .no 1) else if x.1 < 1 ∨ y.1 < 1 then (m, .no 3) else if m.n = 12 then (m, .no 4) else (growM m k x y, .post (k + 1))
  | .draw v => if ¬ (0 ≤ v ∧ v < m.n) then (m, .no 1) else if m.n = 3 then (m, .no 5) else if ((m.cut.map fun q => decide (v = q.1 ∨ v = q.2)).any id) = true then (m, .no 6) else (drawM m v, .sides (m.f (pr ((v - 1) % m.n) v)) (m.f (pr v ((v + 1) % m.n))))
theorem mdl_turn {m : MSt} {a b x y : Int} (hm : pr a b ∈ m.cut) (hT : Turns m.n m.cut (pr a b) x y) : mdl m (.turn a b) = (⟨m.n, turnL m.n m.cut (pr a b), laidF m.f (pr a b) x y⟩, .rope (x, y)) := by
  show (if pr a b ∈ m.cut then turnM m (pr a b) else (m, .no 2)) = _
  rw [if_pos hm]
  unfold turnM
  rw [hT.bes]
theorem mdl_turn_no {m : MSt} {a b : Int} (hm : pr a b ∉ m.cut) : mdl m (.turn a b) = (m, .no 2) := if_neg hm
theorem StAt.val {H : Hp} {A : List Addr} {t : Addr} {m : MSt} {g : Int × Int → Int × Int} (h : StAt K H A t m) (e : ∀ q ∈ tiesS m.n m.cut, m.f q = g q) : StAt K H A t ⟨m.n, m.cut, g⟩ := by
  obtain ⟨⟨c, d, xs, dom, e1, e2, e3, e4, e5, e6⟩, g1⟩ := h
  exact ⟨⟨c, d, xs, dom, e1, e2, e3, FD.val e4 fun q hq => e q ((e5 q).mp hq), e5, e6⟩, ⟨g1.three, g1.most, g1.isC, g1.srt, g1.len⟩⟩
/-! ### the law's start -/
def sp_lstart (K : PySem.W.Frag) : Sp := fun vs H Q _ => ∃ (p : Addr) (rs : List Int), vs = [.ref p] ∧ SqL K H p (rs.map V.int) ∧ rs.length = 40 ∧ rowOk rs ∧
  ∀ (H' : Hp) (t c d : Addr) (n : Int) (xs : List V) (cut dom : List (Int × Int)) (f : Int × Int → Int × Int), Same H H' → H' t = some (.tup [.int n, .ref c, .ref d]) → H' c = some (.lst xs) → PrL K H' xs cut → FD K H' d dom f → (∀ q, q ∈ dom ↔ q ∈ tiesS n cut) → MGood ⟨n, cut, f⟩ → (∀ q ∈ tiesS n cut, F2 10 7 (f q)) → (∃ es, EarRun (rs.drop 2) (rng n) 0 es ∧ ∀ e ∈ es, earR e ∈ cut) → Q (.ref t) H'
theorem ok__law_start (T : Env K mg) : FnOk P w K mg base CX0 4 T.a__law_start T.fd__law_start ["_law_row"] (sp_lstart K) := by
  refine T.F__law_start.ok sc__law_start (fun vs H Q E h => ?_) (fun cdv A outer s H vs Q E hr h => ?_)
  · obtain ⟨p, rs, rfl, _⟩ := h
    rfl
  · obtain ⟨p, rs, rfl, hR, hlen, hro, kk⟩ := h
    refine ⟨_, (pss_cons (ps_set (i := 1) sc__law_start.nd rfl (.inl rfl) (pe_call (ok__law_many T) (hr.mono (by decide)) (by rfl) T.g__law_many T.F__law_many.kp T.b__law_many .nil pass0 (pa_cons (pv 0) pa_nil)))
 (pss_cons (ps_set (i := 2) sc__law_start.nd rfl (.inl rfl) (pe_call (ok__law_ropes T) (hr.mono (by decide)) (by rfl) T.g__law_ropes T.F__law_ropes.kp T.b__law_ropes .nil pass0 (pa_cons (pe_call (ok__law_ears T) (hr.mono (by decide)) (by rfl) T.g__law_ears T.F__law_ears.kp T.b__law_ears .nil pass0 (pa_cons (pv 1) (pa_cons (pe_slice sl_list (pv 0) (po_some pe_int) po_none) pa_nil))) pa_nil)))
 (pss_one (ps_ret (pe_tup (pa_cons (pv 1) (pa_cons (pv 2) (pa_cons (pe_call (ok__law_sized T) (hr.mono (by decide)) (by rfl) T.g__law_sized T.F__law_sized.kp T.b__law_sized .nil pass0 (pa_cons (pe_call (ok__law_ties T) (hr.mono (by decide)) (by rfl) T.g__law_ties T.F__law_ties.kp T.b__law_ties .nil pass0 (pa_cons (pv 1) (pa_cons (pv 2) pa_nil))) (pa_cons (pe_slice sl_list (pv 0) (po_some pe_int) po_none) pa_nil))) pa_nil)))))))), ?_⟩
    refine ⟨_, rfl, p, rs, rfl, hR, by omega, fun n h3 h12 => ?_⟩
    refine ⟨_, rfl, _, rfl, 2, rfl, p, _, rfl, hR, fun q1 hq1 => ?_⟩
    have s1 := same_new (o := .lst (cutV (rs.map V.int) (some 2) none)) hq1
    have e1 : (upd H q1 (.lst (cutV (rs.map V.int) (some 2) none))) q1 = some (.lst ((rs.drop 2).map V.int)) := by rw [upd_same, show (2 : Int) = ((2 : Nat) : Int) from rfl, cut_ok]
    generalize upd H q1 (.lst (cutV (rs.map V.int) (some 2) none)) = H2 at *
    refine ⟨n, q1, rs.drop 2, rfl, h3, h12, .inl (.inl e1), by rw [List.length_drop]; omega, rowOk_drop hro 2, fun H3 o xse es s2 no ho hE hel hC hseq hrun => ?_⟩
    refine ⟨o, xse, es, rfl, ho, hE, by omega, fun H4 c ys s3 nc hc hY => ?_⟩
    have hC2 := isCut_perm hC (sort2_perm _)
    have hcl : ((sort2 (es.map earR)).length : Int) = n - 3 := by rw [sort2_len, List.length_map]; exact hel
    have hcs := sort2_sorted (es.map earR)
    have hec : ∀ e ∈ es, earR e ∈ sort2 (es.map earR) := fun e he => sort2_mem.mpr (List.mem_map.mpr ⟨e, he, rfl⟩)
    generalize sort2 (es.map earR) = cut at *
    refine ⟨_, rfl, _, rfl, _, rfl, _, rfl, n, c, ys, cut, rfl, h3, h12, hc, hY, by omega, fun H5 t zs s4 nt ht hZ => ?_⟩
    have s5 := ((s1.trans s2).trans s3).trans s4
    have htc := ties_count hC2
    refine ⟨_, rfl, 12, rfl, p, _, rfl, s5.seq hR, fun q2 hq2 => ?_⟩
    have s6 := same_new (o := .lst (cutV (rs.map V.int) (some 12) none)) hq2
    have e2 : (upd H5 q2 (.lst (cutV (rs.map V.int) (some 12) none))) q2 = some (.lst ((rs.drop 12).map V.int)) := by rw [upd_same, show (12 : Int) = ((12 : Nat) : Int) from rfl, cut_ok]
    generalize upd H5 q2 (.lst (cutV (rs.map V.int) (some 12) none)) = H6 at *
    refine ⟨t, q2, zs, tiesS n cut, rs.drop 12, rfl, s6 _ _ ht, hZ.mono s6, .inl (.inl e2), rowOk_drop hro 12, ties_nodup hC2, ties_small hC2 h12, by omega, by rw [List.length_drop]; omega, by omega, fun H7 d dom f s7 nd hF hdm hfr => ?_⟩
    refine ⟨small200 (by show 3 ≤ 200; decide), fun t' ht' => ?_⟩
    have s8 : Same H7 _ := same_new (o := .tup [.int n, .ref c, .ref d]) ht'
    have s48 := ((s4.trans s6).trans s7).trans s8
    exact kk _ t' c d n ys cut dom f (((s5.trans s6).trans s7).trans s8) upd_same (s48 _ _ hc) (hY.mono s48) (hF.mono s8) hdm ⟨h3, h12, hC2, hcs, hcl⟩ hfr ⟨es, hrun, hec⟩

def sp_lisat (K : PySem.W.Frag) (C : Addr) : Sp := fun vs H Q _ => ∃ (A B : List Addr) (p l u t : Addr) (m : MSt) (ss us : List (Deed × MSt)), vs = [.ref p, .ref t] ∧ MeadAt K C A H p l u m ss us ∧ StAt K H B t m ∧ (∀ q ∈ tiesS m.n m.cut, Frac 4000 (m.f q)) ∧ ∀ H', Same H H' → Q (.bl true) H'
theorem ok__law_is_at (T : Env K mg) : FnOk P w K mg base CX0 4 T.a__law_is_at T.fd__law_is_at ["_law_mead", "_law_state"] (sp_lisat K T.C_Mead) := by
  refine T.F__law_is_at.ok sc__law_is_at (fun vs H Q E h => ?_) (fun cdv A outer s H vs Q E hr h => ?_)
  · obtain ⟨B, B2, p, l, u, t, m, ss, us, rfl, _⟩ := h
    rfl
  · obtain ⟨B, B2, p, l, u, t, m, ss, us, rfl, hM, hS, hf, kk⟩ := h
    refine ⟨_, (pss_cons (ps_set (i := 2) sc__law_is_at.nd rfl (.inl rfl) (pe_meth0 (pv 0) T.cl_Mead T.me_Mead_posts (ok_Mead_posts T) (hr.mono (by decide)) T.b_Mead_posts .nil pass0))
 (pss_cons (ps_if (PW.pt (pw_or (pt_not (pt_val (pe_call (ok__law_whole T) (hr.mono (by decide)) (by rfl) T.g__law_whole T.F__law_whole.kp T.b__law_whole .nil pass0 (pa_cons (pv 2) pa_nil)))) (pw_or1 (pt_cmpR op_ne (pv 2) (pe_ix ix_tup (pv 1) pe_int (fun _ _ => rfl)) (nomark _)))))
 (pss_one (ps_ret pe_bl))
 pss_nil)
 (pss_cons (ps_set (i := 3) sc__law_is_at.nd rfl (.inl rfl) (pe_meth0 (pv 0) T.cl_Mead T.me_Mead_ropes (ok_Mead_ropes T) (hr.mono (by decide)) T.b_Mead_ropes .nil pass0))
 (pss_cons (ps_if (PW.pt (pw_or (pt_not (pt_val (pe_call (ok__law_list T) (hr.mono (by decide)) (by rfl) T.g__law_list T.F__law_list.kp T.b__law_list .nil pass0 (pa_cons (pv 3) (pa_cons pe_int pa_nil))))) (pw_or1 (pt_cmpR (op_neL2 (by have h_ := hr.units; exact h_)) (pv 3) (pe_ix ix_tup (pv 1) pe_int (fun _ _ => rfl)) (nomark _)))))
 (pss_one (ps_ret pe_bl))
 pss_nil)
 (pss_one (ps_ret (pe_call (ok__law_dict T) (hr.mono (by decide)) (by rfl) T.g__law_dict T.F__law_dict.kp T.b__law_dict .nil pass0 (pa_cons (pe_meth0 (pv 0) T.cl_Mead T.me_Mead_lengths (ok_Mead_lengths T) (hr.mono (by decide)) T.b_Mead_lengths .nil pass0) (pa_cons (pe_ix ix_tup (pv 1) pe_int (fun _ _ => rfl)) pa_nil))))))))), ?_⟩
    obtain ⟨dx, t1, ep, _⟩ := hM.ob
    obtain ⟨⟨c, d, xs, dom, et, ec, hX, hF, hdm, hcn⟩, hG⟩ := hS
    have hxl := hX.length
    have h9 := hG.few
    have hdl := fd_few hF
    have htc := ties_count hG.isC
    have h12 := hG.most
    have hdl2 := dom_len hF.nd (ties_nodup hG.isC) hdm
    have ht : SqT K H t [.int m.n, .ref c, .ref d] := .inl (.inl et)
    refine ⟨_, rfl, p, dx, _, rfl, ep, mfl_no _ _ _ (by decide +kernel) (by decide +kernel) (by decide +kernel), B, p, l, u, m, ss, us, rfl, hM, ?_⟩
    refine ⟨_, rfl, m.n, rfl, true, rfl, iteF ?_⟩
    refine ⟨_, rfl, _, rfl, t, _, _, _, rfl, rfl, ht, atI_nat (j := 0) rfl, rfl, _, rfl, iteNS rfl ?_⟩
    refine ⟨_, rfl, p, dx, _, rfl, ep, mfl_no _ _ _ (by decide +kernel) (by decide +kernel) (by decide +kernel), B, p, l, u, m, ss, us, rfl, hM, fun H1 r ys s1 hr1 er hY => ?_⟩
    refine ⟨_, rfl, r, ys, 2, rfl, er, by decide, hY.tup2, true, rfl, iteF ?_⟩
    refine ⟨_, rfl, _, rfl, t, _, _, _, rfl, rfl, .inl (.inl (s1 _ _ et)), atI_nat (j := 1) rfl, r, c, ys, xs, m.cut, m.cut, rfl, rfl, .inl (.inl er), hY, .inl (.inl (s1 _ _ ec)), hX.mono s1, by omega, by omega, _, rfl, ?_⟩
    show if (!decide (m.cut = m.cut)) = true then _ else _
    rw [decide_eq_true rfl]
    refine iteF ?_
    refine ⟨_, rfl, p, dx, _, rfl, s1 _ _ ep, mfl_no _ _ _ (by decide +kernel) (by decide +kernel) (by decide +kernel), B, p, l, u, m, ss, us, rfl, hM.mono s1, fun H2 e dom2 s2 he2 hF2 hdm2 => ?_⟩
    have s12 := s1.trans s2
    refine ⟨_, rfl, t, _, _, _, rfl, rfl, .inl (.inl (s12 _ _ et)), atI_nat (j := 2) rfl, e, d, dom2, dom, m.f, rfl, ?_, hF2, hF.mono s12, fun q => (hdm2 q).trans (hdm q).symm, fun q hq => hf q ((hdm q).mp hq), by omega, fun H' s3 => kk H' (s12.trans s3)⟩
    intro z
    obtain ⟨kz, ez, _⟩ := (hF.mono s1).few
    rw [← z, he2] at ez
    cases ez
def sp_lsame (K : PySem.W.Frag) : Sp := fun vs H Q _ => ∃ (a b : Addr) (xs ys : List V) (Ds : List Deed), vs = [.ref a, .ref b] ∧ H a = some (.lst xs) ∧ H b = some (.lst ys) ∧ All2 (DeedAt K H) xs Ds ∧ All2 (DeedAt K H) ys Ds ∧ Ds.length ≤ 100 ∧ Q (.bl true) H
/-! ### the law's shift -/
def keptB (k b : Int) (q : Int × Int) : Bool := decide (0 < b) || !decide (k = q.1 ∨ k = q.2)
theorem sh_mul (k b x : Int) : sh k b x = x + b * (if decide (k < x) = true then 1 else 0) := by
  unfold sh
  by_cases h : k < x
  · rw [if_pos h, decide_eq_true h, if_pos rfl, Int.mul_one]
  · rw [if_neg h, decide_eq_false h, if_neg Bool.false_ne_true, Int.mul_zero, Int.add_zero]
theorem one_mul_ok {b : Int} {c : Bool} (h : b = 1 ∨ b = -1) : IntMulOk b (if c = true then 1 else 0) := by
  refine mulW (a := 10) (b := 10) ?_ ?_ (by decide) (by decide) (by decide)
  · rcases h with e | e <;> rw [e] <;> decide
  · cases c <;> decide
def sp_lshift (K : PySem.W.Frag) : Sp := fun vs H Q _ => ∃ (t c d : Addr) (n k b : Int) (xs : List V) (cut dom : List (Int × Int)) (f g : Int × Int → Int × Int), vs = [.ref t, .int k, .int b] ∧ (b = 1 ∨ b = -1) ∧ H t = some (.tup [.int n, .ref c, .ref d]) ∧ H c = some (.lst xs) ∧ PrL K H xs cut ∧ cut.length ≤ 100 ∧ FD K H d dom f ∧
  ((dom.filter (keptB k b)).map (shP k b)).Nodup ∧ (∀ p ∈ dom.filter (keptB k b), smallP (shP k b p)) ∧ (∀ p ∈ dom.filter (keptB k b), g (shP k b p) = f p) ∧
  ∀ H' r c2 d2 ys, Same H H' → H c2 = none → H d2 = none → c2 ≠ d2 → H' r = some (.tup [.int (n + b), .ref c2, .ref d2]) → H' c2 = some (.lst ys) → PrL K H' ys (((dom.filter (keptB k b)).filter fun q => decide (q ∈ cut)).map (shP k b)) → FD K H' d2 ((dom.filter (keptB k b)).map (shP k b)) g → Q (.ref r) H'
theorem ok__law_shift (T : Env K mg) : FnOk P w K mg base CX0 1 T.a__law_shift T.fd__law_shift ["_law_state", "_law_post", "_law_step"] (sp_lshift K) := by
  refine T.F__law_shift.ok sc__law_shift (fun vs H Q E h => ?_) (fun cdv A outer s H vs Q E hr h => ?_)
  · obtain ⟨t, c, d, n, k, b, xs, cut, dom, f, g, rfl, _⟩ := h
    rfl
  · obtain ⟨t, c, d, n, k, b, xs, cut, dom, f, g, rfl, hb1, et, ec, hX, hcl, hF, hnd, hsm, hg, kk⟩ := h
    refine ⟨_, (pss_cons (ps_set (i := 3) sc__law_shift.nd rfl (.inl rfl) (pe_lst pa_nil))
 (pss_cons (ps_set (i := 4) sc__law_shift.nd rfl (.inl rfl) pe_dnewT)
 (pss_cons (ps_lock (ps_for PassesOwn.never rfl (pi_itemsT (pe_ix ix_tup (pv 0) pe_int (fun _ _ => rfl))) (pg_tup rfl (pgs_cons (pg_name (i := 5) sc__law_shift.nd rfl (.inl rfl)) (pgs_cons (pg_name (i := 6) sc__law_shift.nd rfl (.inl rfl)) pgs_nil)))
 (pss_one (ps_if (PW.pt (pw_or (pt_cmpR op_gt (pv 2) pe_int (nomark _)) (pw_or1 (pt_cmpR op_notIn_seq (pv 1) (pv 5) (by rfl)))))
 (pss_cons (ps_set (i := 7) sc__law_shift.nd rfl (.inl rfl) (pe_op op_add (pe_ix ix_tup (pv 5) pe_int (fun _ _ => rfl)) (pe_op op_mulU (pv 2) (pe_callTy call_int1 (by rfl) T.m_int (by decide +kernel) (pa_cons (pe_cmpR op_gt (pe_ix ix_tup (pv 5) pe_int (fun _ _ => rfl)) (pv 1) (nomark _)) pa_nil)))))
 (pss_cons (ps_set (i := 8) sc__law_shift.nd rfl (.inl rfl) (pe_op op_add (pe_ix ix_tup (pv 5) pe_int (fun _ _ => rfl)) (pe_op op_mulU (pv 2) (pe_callTy call_int1 (by rfl) T.m_int (by decide +kernel) (pa_cons (pe_cmpR op_gt (pe_ix ix_tup (pv 5) pe_int (fun _ _ => rfl)) (pv 1) (nomark _)) pa_nil)))))
 (pss_cons (ps_dput (hu_of hr) (pv 4) (pe_tup (pa_cons (pv 7) (pa_cons (pv 8) pa_nil))) (pv 6) rfl)
 (pss_one (ps_if (pt_cmpR (op_in2 (by have h_ := Room.units2 hr; exact h_)) (pv 5) (pe_ix ix_tup (pv 0) pe_int (fun _ _ => rfl)) (by rfl))
 (pss_one (ps_expr (pe_bm PySem.F.plainAttrs_list PySem.F.slot_list_append PySem.F.type_list_append mt_append (pv 3) (pa_cons (pe_tup (pa_cons (pv 7) (pa_cons (pv 8) pa_nil))) pa_nil))))
 pss_nil)))))
 pss_nil))))
 (pss_one (ps_ret (pe_tup (pa_cons (pe_op op_add (pe_ix ix_tup (pv 0) pe_int (fun _ _ => rfl)) (pv 2)) (pa_cons (pv 3) (pa_cons (pv 4) pa_nil))))))))), ?_⟩
    have hdl := fd_few hF
    have hxl := hX.length
    obtain ⟨⟨kvs, ek, rk⟩, nd, sm⟩ := hF
    refine ⟨small200 (by show 0 ≤ 200; decide), fun c2 hc2 => ?_⟩
    refine fun M hM2 => ?_
    have hMc : M ≠ c2 := fun z => by rw [z, upd_same] at hM2; cases hM2
    have hM : H M = none := by rw [upd_ne hMc] at hM2; exact hM2
    have hMd : M ≠ d := (ne_of_none ek hM).symm
    have hcd : c2 ≠ d := (ne_of_none ek hc2).symm
    have ek2 : (upd (upd H c2 (.lst [])) M (.dT [])) d = some (.dT kvs) := by rw [upd_ne hMd.symm, upd_ne hcd.symm]; exact ek
    refine ⟨d, _, ek2, True.intro, fun od => ?_⟩
    have tS : TupS H (upd H d (.frz od (.dT kvs))) := fun w ys e => by
      rw [upd_ne (ne_of e ek (fun z => nomatch z))]
      exact e
    have hMn : (upd H d (.frz od (.dT kvs))) M = none := by rw [upd_ne hMd]; exact hM
    have hcn : (upd H d (.frz od (.dT kvs))) c2 = none := by rw [upd_ne hcd]; exact hc2
    have ecL : (upd H d (.frz od (.dT kvs))) c = some (.lst xs) := by rw [upd_ne (ne_of ec ek (fun z => nomatch z))]; exact ec
    have s0 : Same (upd H d (.frz od (.dT kvs))) (upd (upd (upd H c2 (.lst [])) M (.dT [])) d (.frz od (.dT kvs))) := fun b o eb => by
      by_cases hb : b = d
      · subst hb
        rw [upd_same] at eb ⊢
        exact eb
      · rw [upd_ne hb] at eb ⊢
        rw [upd_ne (ne_of_none eb hM), upd_ne (ne_of_none eb hc2)]
        exact eb
    have f0 : FD K (upd (upd (upd H c2 (.lst [])) M (.dT [])) d (.frz od (.dT kvs))) M (((dom.take 0).filter (keptB k b)).map (shP k b)) g := by
      rw [List.take_zero]
      exact FD.nil (by rw [upd_ne hMd, upd_same])
    refine ⟨_, rfl, t, _, _, _, rfl, rfl, .inl (.inl (s0 _ _ (tS _ _ et))), atI_nat (j := 2) rfl, d, od, kvs, rfl, upd_same, for_itemsT (fun i σ H' => ∃ y z y2 z2 ws, σ = [some (.ref t), some (.int k), some (.int b), some (.ref c2), some (.ref M), y, z, y2, z2] ∧ Same (upd H d (.frz od (.dT kvs))) H' ∧ FD K H' M (((dom.take i).filter (keptB k b)).map (shP k b)) g ∧
      H' c2 = some (.lst ws) ∧ PrL K H' ws ((((dom.take i).filter (keptB k b)).filter fun q => decide (q ∈ cut)).map (shP k b))) ⟨_, _, _, _, [], rfl, s0, f0, by rw [upd_ne hcd, upd_ne hMc.symm, upd_same], .nil⟩ (fun i σ H' _ ⟨_, _, _, _, _, _, s, _⟩ => s _ _ upd_same) ?_ ?_⟩
    · rintro i kx va u tt σ H' hk ⟨y, z, y2, z2, ws, rfl, s1, hFi, hz, hW⟩ ht hu
      obtain ⟨e, he, e1, e2⟩ := rk.at hk
      have e1 : kx = pk e := e1
      subst e1
      have hem : e ∈ dom := List.mem_of_getElem? he
      have s2 : Same H' (upd H' tt (.tup [.ref u, va])) := same_new ht
      have ht3 : (upd H' tt (.tup [.ref u, va])) tt = some (.tup [.ref u, va]) := upd_same
      have hu3 := s2 _ _ hu
      generalize upd H' tt (.tup [.ref u, va]) = H3 at *
      have s3 := s1.trans s2
      have hu' : SqT K H3 u [.int e.1, .int e.2] := .inl (.inl hu3)
      have hq : PrAt K H3 va (f e) := by
        obtain ⟨w, ew, hw⟩ := e2
        exact ⟨w, ew, s3 _ _ (tS _ _ hw)⟩
      refine ⟨tt, _, rfl, .inl (.inl ht3), rfl, _, _, rfl, _, _, rfl, rfl, ?_⟩
      have tk : dom.take (i + 1) = dom.take i ++ [e] := take_more he
      have hlen : ((dom.take i).filter (keptB k b)).length < 170 := Nat.lt_of_le_of_lt (List.length_filter_le _ _) (by rw [List.length_take]; omega)
      have go : ∀ (a1 a2 : Int) (q : Addr), keptB k b e = true → shP k b e = (a1, a2) → H3 q = none → ∃ kz H4, (upd H3 q (.tup [.int a1, .int a2])) M = some (.dT kz) ∧ kz.length < 200 ∧ H4 = upd (upd H3 q (.tup [.int a1, .int a2])) M (.dT (putK kz (pk (a1, a2)) va)) ∧ Same (upd H d (.frz od (.dT kvs))) H4 ∧ TupS H3 H4 ∧ H4 c2 = some (.lst ws) ∧
          FD K H4 M (((dom.take (i + 1)).filter (keptB k b)).map (shP k b)) g := by
        intro a1 a2 q hkp es hq3
        have sQ : Same H3 _ := same_new (o := .tup [.int a1, .int a2]) hq3
        obtain ⟨⟨kz, ez, rz⟩, nz, sz⟩ := hFi.mono (s2.trans sQ)
        have hzl := rz.length
        rw [List.length_map] at hzl
        have hnew : shP k b e ∉ ((dom.take i).filter (keptB k b)).map (shP k b) := fun hm => by
          have e0 : dom.filter (keptB k b) = (dom.take i).filter (keptB k b) ++ e :: (dom.drop (i + 1)).filter (keptB k b) := by
            have d1 : dom = dom.take i ++ e :: dom.drop (i + 1) := by
              have hil := (List.getElem?_eq_some_iff.mp he)
              rw [← hil.2, List.getElem_cons_drop, List.take_append_drop]
            conv => lhs; rw [d1]
            rw [List.filter_append, List.filter_cons_of_pos hkp]
          rw [e0, List.map_append, List.map_cons, List.nodup_append] at hnd
          exact hnd.2.2 _ hm _ List.mem_cons_self rfl
        have hmem : e ∈ dom.filter (keptB k b) := List.mem_filter.mpr ⟨hem, hkp⟩
        have hs1 := hsm e hmem
        have hg1 := hg e hmem
        have hp := FD.put nz sz ez rz hnew hs1 (hq.mono sQ)
        rw [es] at hp hg1
        refine ⟨kz, _, ez, by omega, rfl, same_put (s3.trans sQ) hMn, (TupS.of sQ).trans (fun w ys ew => by rw [upd_ne (ne_of ew ez (fun z => nomatch z))]; exact ew), ?_, ?_⟩
        · rw [upd_ne hMc.symm]
          exact sQ _ _ (s2 _ _ hz)
        · rw [tk, List.filter_append, List.filter_cons_of_pos hkp, List.map_append]
          show FD K _ M (_ ++ [shP k b e]) g
          rw [es]
          refine FD.val hp fun z _ => ?_
          unfold setF
          split
          · next e' => rw [e', hg1]
          · rfl
      refine ⟨_, rfl, _, _, rfl, rfl, _, rfl, ?_⟩
      show if decide (0 < b) = true then _ else _
      by_cases hb : 0 < b
      · refine iteDT hb ?_
        have hkp : keptB k b e = true := by unfold keptB; rw [decide_eq_true hb]; rfl
        refine ⟨_, rfl, u, _, _, _, rfl, rfl, hu', atI_nat (j := 0) rfl, _, rfl, _, rfl, u, _, _, _, rfl, rfl, hu', atI_nat (j := 0) rfl, _, rfl, _, _, rfl, rfl, .inr ⟨_, rfl, ?_⟩⟩
        refine ⟨_, _, rfl, rfl, one_mul_ok hb1, _, _, rfl, rfl, ?_⟩
        refine ⟨_, rfl, u, _, _, _, rfl, rfl, hu', atI_nat (j := 1) rfl, _, rfl, _, rfl, u, _, _, _, rfl, rfl, hu', atI_nat (j := 1) rfl, _, rfl, _, _, rfl, rfl, .inr ⟨_, rfl, ?_⟩⟩
        refine ⟨_, _, rfl, rfl, one_mul_ok hb1, _, _, rfl, rfl, ?_⟩
        have es : shP k b e = (e.1 + b * (if decide (k < e.1) = true then 1 else 0), e.2 + b * (if decide (k < e.2) = true then 1 else 0)) := by
          show (sh k b e.1, sh k b e.2) = _
          rw [sh_mul, sh_mul]
        refine ⟨_, rfl, _, rfl, _, rfl, _, rfl, small200 (by show 2 ≤ 200; decide), fun q hq3 => ?_⟩
        obtain ⟨kz, H4, ez, hzl, eH4, s4, t4, ew4, hFp⟩ := go _ _ q hkp es hq3
        refine ⟨M, H4, rfl, by rw [eH4]; exact DPut.t ez (key_pk (p := (e.1 + b * (if decide (k < e.1) = true then 1 else 0), e.2 + b * (if decide (k < e.2) = true then 1 else 0))) upd_same) (small200' hzl), ?_⟩
        have hu4 := t4 _ _ hu3
        have hX4 : PrL K H4 xs cut := (hX.tups tS).mono s4
        have hW4 := (hW.mono s2).tups t4
        have hwl := hW4.length
        rw [List.length_map] at hwl
        have hwl2 : ws.length < 170 := Nat.lt_of_le_of_lt (by rw [hwl]; exact List.length_filter_le _ _) hlen
        refine ⟨_, rfl, _, rfl, t, _, _, _, rfl, rfl, .inl (.inl (s4 _ _ (tS _ _ et))), atI_nat (j := 1) rfl, e, c, xs, cut, ⟨u, rfl, hu4⟩, rfl, .inl (.inl (s4 _ _ ecL)), hX4, by omega, _, rfl, ?_⟩
        show if decide (e ∈ cut) = true then _ else _
        by_cases hec : e ∈ cut
        · refine iteDT hec ?_
          refine ⟨_, rfl, .inl ⟨rfl, _, .inl (.inl ew4)⟩, _, rfl, _, rfl, small200 (by show 2 ≤ 200; decide), fun q2 hq2 => ?_⟩
          have s5 : Same H4 _ := same_new (o := .tup [.int (e.1 + b * (if decide (k < e.1) = true then 1 else 0)), .int (e.2 + b * (if decide (k < e.2) = true then 1 else 0))]) hq2
          refine ⟨c2, ws, _, rfl, rfl, s5 _ _ ew4, small200' (by omega), ?_⟩
          have t6 := TupS.put (o := .lst (ws ++ [V.ref q2])) (s5 _ _ ew4)
          refine ⟨_, _, _, _, ws ++ [.ref q2], rfl, same_put (s4.trans s5) hcn, ?_, upd_same, ?_⟩
          · exact FD.other (hFp.mono s5) (s5 _ _ ew4) hMc (fun ys z => nomatch z)
          · rw [tk, List.filter_append, List.filter_cons_of_pos hkp, List.filter_append, List.filter_cons_of_pos (by exact decide_eq_true hec), List.map_append]
            refine ((hW4.tups (TupS.of s5)).tups t6).app (.one ⟨q2, rfl, t6 _ _ ?_⟩)
            rw [es]
            exact upd_same
        · refine iteDF hec ?_
          refine ⟨_, _, _, _, ws, rfl, s4, hFp, ew4, ?_⟩
          rw [tk, List.filter_append, List.filter_cons_of_pos hkp, List.filter_append, List.filter_cons_of_neg (by rw [decide_eq_false hec]; decide)]
          show PrL K H4 ws ((_ ++ []).map _)
          rw [List.append_nil]
          exact hW4
      · refine iteDF hb ?_
        refine ⟨_, rfl, _, rfl, u, [.int e.1, .int e.2], rfl, .inr (.inl (.inl hu3)), rfl, rfl, _, rfl, ?_⟩
        show if (!inV (V.int k) [V.int e.1, V.int e.2]) = true then _ else _
        rw [inV2]
        by_cases hin : k = e.1 ∨ k = e.2
        · rw [decide_eq_true hin]
          refine iteF ?_
          have hkp : keptB k b e = false := by unfold keptB; rw [decide_eq_false hb, decide_eq_true hin]; rfl
          refine ⟨_, _, _, _, ws, rfl, s3, ?_, s2 _ _ hz, ?_⟩
          · rw [tk, List.filter_append, List.filter_cons_of_neg (by rw [hkp]; decide)]
            show FD K H3 M ((_ ++ []).map _) g
            rw [List.append_nil]
            exact hFi.mono s2
          · rw [tk, List.filter_append, List.filter_cons_of_neg (by rw [hkp]; decide)]
            show PrL K H3 ws (((_ ++ []).filter _).map _)
            rw [List.append_nil]
            exact hW.mono s2
        · rw [decide_eq_false hin]
          refine iteT ?_
          have hkp : keptB k b e = true := by unfold keptB; rw [decide_eq_false hb, decide_eq_false hin]; rfl
          refine ⟨_, rfl, u, _, _, _, rfl, rfl, hu', atI_nat (j := 0) rfl, _, rfl, _, rfl, u, _, _, _, rfl, rfl, hu', atI_nat (j := 0) rfl, _, rfl, _, _, rfl, rfl, .inr ⟨_, rfl, ?_⟩⟩
          refine ⟨_, _, rfl, rfl, one_mul_ok hb1, _, _, rfl, rfl, ?_⟩
          refine ⟨_, rfl, u, _, _, _, rfl, rfl, hu', atI_nat (j := 1) rfl, _, rfl, _, rfl, u, _, _, _, rfl, rfl, hu', atI_nat (j := 1) rfl, _, rfl, _, _, rfl, rfl, .inr ⟨_, rfl, ?_⟩⟩
          refine ⟨_, _, rfl, rfl, one_mul_ok hb1, _, _, rfl, rfl, ?_⟩
          have es : shP k b e = (e.1 + b * (if decide (k < e.1) = true then 1 else 0), e.2 + b * (if decide (k < e.2) = true then 1 else 0)) := by
            show (sh k b e.1, sh k b e.2) = _
            rw [sh_mul, sh_mul]
          refine ⟨_, rfl, _, rfl, _, rfl, _, rfl, small200 (by show 2 ≤ 200; decide), fun q hq3 => ?_⟩
          obtain ⟨kz, H4, ez, hzl, eH4, s4, t4, ew4, hFp⟩ := go _ _ q hkp es hq3
          refine ⟨M, H4, rfl, by rw [eH4]; exact DPut.t ez (key_pk (p := (e.1 + b * (if decide (k < e.1) = true then 1 else 0), e.2 + b * (if decide (k < e.2) = true then 1 else 0))) upd_same) (small200' hzl), ?_⟩
          have hu4 := t4 _ _ hu3
          have hX4 : PrL K H4 xs cut := (hX.tups tS).mono s4
          have hW4 := (hW.mono s2).tups t4
          have hwl := hW4.length
          rw [List.length_map] at hwl
          have hwl2 : ws.length < 170 := Nat.lt_of_le_of_lt (by rw [hwl]; exact List.length_filter_le _ _) hlen
          refine ⟨_, rfl, _, rfl, t, _, _, _, rfl, rfl, .inl (.inl (s4 _ _ (tS _ _ et))), atI_nat (j := 1) rfl, e, c, xs, cut, ⟨u, rfl, hu4⟩, rfl, .inl (.inl (s4 _ _ ecL)), hX4, by omega, _, rfl, ?_⟩
          show if decide (e ∈ cut) = true then _ else _
          by_cases hec : e ∈ cut
          · refine iteDT hec ?_
            refine ⟨_, rfl, .inl ⟨rfl, _, .inl (.inl ew4)⟩, _, rfl, _, rfl, small200 (by show 2 ≤ 200; decide), fun q2 hq2 => ?_⟩
            have s5 : Same H4 _ := same_new (o := .tup [.int (e.1 + b * (if decide (k < e.1) = true then 1 else 0)), .int (e.2 + b * (if decide (k < e.2) = true then 1 else 0))]) hq2
            refine ⟨c2, ws, _, rfl, rfl, s5 _ _ ew4, small200' (by omega), ?_⟩
            have t6 := TupS.put (o := .lst (ws ++ [V.ref q2])) (s5 _ _ ew4)
            refine ⟨_, _, _, _, ws ++ [.ref q2], rfl, same_put (s4.trans s5) hcn, ?_, upd_same, ?_⟩
            · exact FD.other (hFp.mono s5) (s5 _ _ ew4) hMc (fun ys z => nomatch z)
            · rw [tk, List.filter_append, List.filter_cons_of_pos hkp, List.filter_append, List.filter_cons_of_pos (by exact decide_eq_true hec), List.map_append]
              refine ((hW4.tups (TupS.of s5)).tups t6).app (.one ⟨q2, rfl, t6 _ _ ?_⟩)
              rw [es]
              exact upd_same
          · refine iteDF hec ?_
            refine ⟨_, _, _, _, ws, rfl, s4, hFp, ew4, ?_⟩
            rw [tk, List.filter_append, List.filter_cons_of_pos hkp, List.filter_append, List.filter_cons_of_neg (by rw [decide_eq_false hec]; decide)]
            show PrL K H4 ws ((_ ++ []).map _)
            rw [List.append_nil]
            exact hW4
    · rintro σ H' ⟨y, z, y2, z2, ws, rfl, s1, hFi, hz, hW⟩
      rw [List.take_of_length_le (by have := rk.length; omega)] at hFi hW
      have hd3 := s1 _ _ upd_same
      refine ⟨hd3, ?_⟩
      have hFu := FD.other (x := .dT kvs) hFi hd3 hMd (fun ys z => nomatch z)
      have s4 := Same.unlock ek s1
      have hz4 : (upd H' d (.dT kvs)) c2 = some (.lst ws) := by rw [upd_ne hcd]; exact hz
      have tD : TupS H' (upd H' d (.dT kvs)) := fun w ys ew => by rw [upd_ne (ne_of ew hd3 (fun z => nomatch z))]; exact ew
      have hW4 := hW.tups tD
      generalize upd H' d (.dT kvs) = H5 at *
      refine ⟨_, rfl, t, _, _, _, rfl, rfl, .inl (.inl (s4 _ _ et)), atI_nat (j := 0) rfl, _, rfl, _, _, rfl, rfl, _, rfl, _, rfl, small200 (by show 3 ≤ 200; decide), fun r hr2 => ?_⟩
      have s5 : Same H5 _ := same_new (o := .tup [.int (n + b), .ref c2, .ref M]) hr2
      exact kk _ r c2 M ws (s4.trans s5) hc2 hM hMc.symm upd_same (s5 _ _ hz4) (hW4.mono s5) (hFu.mono s5)

theorem grow_dom {n k : Int} {cut dom : List (Int × Int)} (hC : IsCut n cut) (hk : 0 ≤ k) (h : k < n) (hdm : ∀ p, p ∈ dom ↔ p ∈ tiesS n cut) : (k, k + 1) ∉ dom.map (shP k 1) ∧ pr (k + 1) (aft n k) ∉ dom.map (shP k 1) ++ [(k, k + 1)] ∧ ∀ q, q ∈ (dom.map (shP k 1) ++ [(k, k + 1)]) ++ [pr (k + 1) (aft n k)] ↔ q ∈ tiesS (n + 1) (cutG n cut k) := by
  have hAf := (aft_ok hC.three hk h).e
  refine ⟨fun hm => ?_, fun hm => ?_, fun q => ?_⟩
  · obtain ⟨e, _, he⟩ := List.mem_map.mp hm
    exact up_no (congrArg Prod.snd he)
  · rcases List.mem_append.mp hm with z | z
    · obtain ⟨e, _, he⟩ := List.mem_map.mp z
      rcases hAf with ⟨a1, a2, a3⟩ | ⟨a1, a2, a3⟩ <;> rw [a3] at he
      · exact up_no (congrArg Prod.fst he)
      · exact up_no ((congrArg Prod.snd he).trans (show n = k + 1 by omega))
    · have z := List.mem_singleton.mp z
      have := hC.three
      rcases hAf with ⟨a1, a2, a3⟩ | ⟨a1, a2, a3⟩ <;> rw [a3, Prod.mk.injEq] at z <;> omega
  · refine Iff.trans ?_ ((growG hC hk h).2 q).symm
    rw [List.mem_append, List.mem_append, List.mem_singleton, List.mem_singleton, List.mem_map, or_assoc]
    refine or_congr ⟨?_, ?_⟩ Iff.rfl
    · rintro ⟨e, he, rfl⟩; exact ⟨e, (hdm e).mp he, rfl⟩
    · rintro ⟨e, he, rfl⟩; exact ⟨e, (hdm e).mpr he, rfl⟩
theorem cutG_law {n k : Int} {cut dom : List (Int × Int)} (hC : IsCut n cut) (nd : dom.Nodup) (hdm : ∀ p, p ∈ dom ↔ p ∈ tiesS n cut) : sort2 ((dom.filter fun q => decide (q ∈ cut)).map (shP k 1) ++ [pr k (aft n k)]) = cutG n cut k := by
  unfold cutG
  refine sort2_eq (List.Perm.append_right _ (List.Perm.map _ ((List.perm_ext_iff_of_nodup (nd.sublist List.filter_sublist) hC.nd).mpr fun q => ?_)))
  rw [List.mem_filter, decide_eq_true_eq, hdm q]
  exact ⟨fun z => z.2, fun z => ⟨sort2_mem.mpr (List.mem_append_right _ z), z⟩⟩
theorem kept_one {k : Int} {dom : List (Int × Int)} : dom.filter (keptB k 1) = dom := List.filter_eq_self.mpr fun q _ => by
  unfold keptB
  rw [decide_eq_true (by decide)]
  rfl
def sp_lset (K : PySem.W.Frag) : Sp := fun vs H Q _ => ∃ (A : List Addr) (t : Addr) (m : MSt) (k : Int) (v w : V) (x y : Int × Int), vs = [.ref t, .int k, v, w] ∧ StAt K H A t m ∧ PrAt K H v x ∧ PrAt K H w y ∧ (∀ b ∈ A, ∃ o, H b = some o) ∧
  ∀ H' r t' a, Same H H' → H' r = some (.tup [.ref t', a]) → StAt K H' A t' (mdl m (.set k x y)).1 → AnsAt K H' a (mdl m (.set k x y)).2 → Q (.ref r) H'
theorem ok__law_set (T : Env K mg) : FnOk P w K mg base CX0 3 T.a__law_set T.fd__law_set ["_law_state", "_law_k", "_law_one", "_law_other"] (sp_lset K) := by
  refine T.F__law_set.ok sc__law_set (fun vs H Q E h => ?_) (fun cdv A outer s H vs Q E hr h => ?_)
  · obtain ⟨B, t, m, k, v, w', x, y, rfl, _⟩ := h
    rfl
  · obtain ⟨B, t, m, k, v, w', x, y, rfl, hS, hv, hw, hB, kk⟩ := h
    refine ⟨_, (pss_cons (ps_if (pt_not (pt_chain op_le op_lt pe_int (pv 1) (pe_ix ix_tup (pv 0) pe_int (fun _ _ => rfl))))
 (pss_one (ps_ret (pe_tup (pa_cons (pv 0) (pa_cons (pe_tup (pa_cons pe_str (pa_cons pe_int pa_nil))) pa_nil)))))
 pss_nil)
 (pss_cons (ps_if (PW.pt (pw_or (pt_cmpR op_lt (pe_ix ix_tup (pv 2) pe_int (fun _ _ => rfl)) pe_int (nomark _)) (pw_or1 (pt_cmpR op_lt (pe_ix ix_tup (pv 3) pe_int (fun _ _ => rfl)) pe_int (nomark _)))))
 (pss_one (ps_ret (pe_tup (pa_cons (pv 0) (pa_cons (pe_tup (pa_cons pe_str (pa_cons pe_int pa_nil))) pa_nil)))))
 pss_nil)
 (pss_cons (ps_if (pt_cmpR op_eq (pe_ix ix_tup (pv 0) pe_int (fun _ _ => rfl)) pe_int (nomark _))
 (pss_one (ps_ret (pe_tup (pa_cons (pv 0) (pa_cons (pe_tup (pa_cons pe_str (pa_cons pe_int pa_nil))) pa_nil)))))
 pss_nil)
 (pss_cons (ps_asg (pe_call (ok__law_shift T) (hr.mono (by decide)) (by rfl) T.g__law_shift T.F__law_shift.kp T.b__law_shift .nil pass0 (pa_cons (pv 0) (pa_cons (pv 1) (pa_cons pe_int pa_nil)))) (pg_tup rfl (pgs_cons (pg_name (i := 4) sc__law_set.nd rfl (.inl rfl)) (pgs_cons (pg_name (i := 5) sc__law_set.nd rfl (.inl rfl)) (pgs_cons (pg_name (i := 6) sc__law_set.nd rfl (.inl rfl)) pgs_nil)))))
 (pss_cons (ps_set (i := 7) sc__law_set.nd rfl (.inl rfl) (pe_op op_mod (pe_op op_add (pv 1) pe_int) (pv 4)))
 (pss_cons (ps_expr (pe_bm PySem.F.plainAttrs_list PySem.F.slot_list_append PySem.F.type_list_append mt_append (pv 5) (pa_cons (pe_call (ok__law_pair T) (hr.mono (by decide)) (by rfl) T.g__law_pair T.F__law_pair.kp T.b__law_pair .nil pass0 (pa_cons (pv 1) (pa_cons (pv 7) pa_nil))) pa_nil)))
 (pss_cons (ps_dput (hu_of hr) (pv 6) (pe_tup (pa_cons (pv 1) (pa_cons (pe_op op_add (pv 1) pe_int) pa_nil))) (pv 2) rfl)
 (pss_cons (ps_dput (hu_of hr) (pv 6) (pe_call (ok__law_pair T) (hr.mono (by decide)) (by rfl) T.g__law_pair T.F__law_pair.kp T.b__law_pair .nil pass0 (pa_cons (pe_op op_add (pv 1) pe_int) (pa_cons (pv 7) pa_nil))) (pv 3) rfl)
 (pss_one (ps_ret (pe_tup (pa_cons (pe_tup (pa_cons (pv 4) (pa_cons (pe_callB cr_sort2 (by rfl) T.m_sorted (by decide +kernel) (pa_cons (pv 5) pa_nil)) (pa_cons (pv 6) pa_nil)))) (pa_cons (pe_tup (pa_cons pe_str (pa_cons (pe_op op_add (pv 1) pe_int) pa_nil))) pa_nil))))))))))))), ?_⟩
    obtain ⟨⟨c, d, xs, dom, et, ec, hX, hF, hdm, hcn⟩, hG⟩ := id hS
    have ht : SqT K H t [.int m.n, .ref c, .ref d] := .inl (.inl et)
    have out : ∀ j : Int, mdl m (.set k x y) = (m, .no j) → ∀ a, H a = none → ∀ r, (upd H a (.tup [.str "no", .int j])) r = none → Q (.ref r) (upd (upd H a (.tup [.str "no", .int j])) r (.tup [.ref t, .ref a])) := fun j e a ha r hr2 => by
      have s1 : Same H _ := same_new (o := .tup [.str "no", .int j]) ha
      have s2 : Same (upd H a (.tup [.str "no", .int j])) _ := same_new (o := .tup [.ref t, .ref a]) hr2
      refine kk _ r t (.ref a) (s1.trans s2) upd_same ?_ ?_
      · rw [e]; exact hS.mono (s1.trans s2)
      · rw [e]; exact ⟨a, rfl, s2 _ _ upd_same⟩
    refine ⟨_, rfl, _, _, rfl, rfl, _, rfl, ?_⟩
    show if decide (0 ≤ k) = true then _ else _
    by_cases h0 : 0 ≤ k
    case neg =>
      refine iteDF h0 ?_
      refine ⟨_, rfl, ?_⟩
      show if true = true then _ else _
      refine iteT ?_
      refine ⟨_, rfl, small200 (by show 2 ≤ 200; decide), fun a ha => ⟨small200 (by show 2 ≤ 200; decide), fun r hr2 => ?_⟩⟩
      exact out 1 (if_pos fun g => h0 g.1) a ha r hr2
    refine iteDT h0 ?_
    refine ⟨_, rfl, t, _, _, _, rfl, rfl, ht, atI_nat (j := 0) rfl, _, _, rfl, rfl, _, rfl, ?_⟩
    show if (!decide (k < m.n)) = true then _ else _
    by_cases h1 : k < m.n
    case neg =>
      rw [decide_eq_false h1]
      refine iteT ?_
      refine ⟨_, rfl, small200 (by show 2 ≤ 200; decide), fun a ha => ⟨small200 (by show 2 ≤ 200; decide), fun r hr2 => ?_⟩⟩
      exact out 1 (if_pos fun g => h1 g.2) a ha r hr2
    rw [decide_eq_true h1]
    refine iteF ?_
    have np : ¬ ¬ (0 ≤ k ∧ k < m.n) := fun z => z ⟨h0, h1⟩
    obtain ⟨wx, rfl, hwx⟩ := id hv
    obtain ⟨wy, rfl, hwy⟩ := id hw
    have hwx' : SqT K H wx [.int x.1, .int x.2] := .inl (.inl hwx)
    have hwy' : SqT K H wy [.int y.1, .int y.2] := .inl (.inl hwy)
    refine ⟨_, rfl, wx, _, _, _, rfl, rfl, hwx', atI_nat (j := 0) rfl, _, _, rfl, rfl, _, rfl, ?_⟩
    show if decide (x.1 < 1) = true then _ else _
    by_cases hx1 : x.1 < 1
    · refine iteDT hx1 ?_
      refine ⟨_, rfl, small200 (by show 2 ≤ 200; decide), fun a ha => ⟨small200 (by show 2 ≤ 200; decide), fun r hr2 => ?_⟩⟩
      exact out 3 ((if_neg np).trans (if_pos (.inl hx1))) a ha r hr2
    refine iteDF hx1 ?_
    refine ⟨_, rfl, wy, _, _, _, rfl, rfl, hwy', atI_nat (j := 0) rfl, _, _, rfl, rfl, _, rfl, ?_⟩
    show if decide (y.1 < 1) = true then _ else _
    by_cases hy1 : y.1 < 1
    · refine iteDT hy1 ?_
      refine ⟨_, rfl, small200 (by show 2 ≤ 200; decide), fun a ha => ⟨small200 (by show 2 ≤ 200; decide), fun r hr2 => ?_⟩⟩
      exact out 3 ((if_neg np).trans (if_pos (.inr hy1))) a ha r hr2
    refine iteDF hy1 ?_
    have nxy : ¬ (x.1 < 1 ∨ y.1 < 1) := fun z => z.elim hx1 hy1
    refine ⟨_, rfl, t, _, _, _, rfl, rfl, ht, atI_nat (j := 0) rfl, rfl, _, rfl, ?_⟩
    show if decide (V.int m.n = V.int 12) = true then _ else _
    by_cases c12 : m.n = 12
    · refine iteDT (congrArg V.int c12) ?_
      refine ⟨_, rfl, small200 (by show 2 ≤ 200; decide), fun a ha => ⟨small200 (by show 2 ≤ 200; decide), fun r hr2 => ?_⟩⟩
      exact out 4 ((if_neg np).trans ((if_neg nxy).trans (if_pos c12))) a ha r hr2
    refine iteDF (fun z => c12 (V.int.inj z)) ?_
    have em : mdl m (.set k x y) = (growM m k x y, .post (k + 1)) := (if_neg np).trans ((if_neg nxy).trans (if_neg c12))
    rw [em] at kk
    have h3 := hG.three
    have hmost := hG.most
    have h9 := hG.few
    have c12' : m.n < 12 := by omega
    obtain ⟨gC, gT⟩ := growG hG.isC h0 h1
    have hGG := growM_good (x := x) (y := y) hG h0 h1 c12'
    have hsm2 := ties_small gC (by have := hGG.most; exact this)
    have hnd : (dom.map (shP k 1)).Nodup := List.pairwise_map.mpr (hF.nd.imp fun h e => h (upP_inj e))
    obtain ⟨hn1, hn2, hdm2⟩ := grow_dom hG.isC h0 h1 hdm
    have hdl := fd_few hF
    refine ⟨_, rfl, _, rfl, t, c, d, m.n, k, 1, xs, m.cut, dom, m.f, fun q => m.f (dnP k q), rfl, .inl rfl, et, ec, hX, by omega, hF, by rw [kept_one]; exact hnd, by rw [kept_one]; exact fun q hq => hsm2 _ ((gT _).mpr (.inl ⟨q, (hdm q).mp hq, rfl⟩)), (fun q _ => by show m.f (dnP k (shP k 1 q)) = m.f q; rw [dnP_up]), fun H1 r c2 d2 ys s1 hc2 hd2 hcd er ec2 hY hF2 => ?_⟩
    rw [kept_one] at hY hF2
    have hyl := hY.length
    rw [List.length_map] at hyl
    have hyl2 : ys.length < 170 := Nat.lt_of_le_of_lt (by rw [hyl]; exact List.length_filter_le _ _) (by omega)
    refine ⟨r, _, rfl, .inl (.inl er), rfl, _, _, rfl, _, _, rfl, _, _, rfl, rfl, ?_⟩
    refine ⟨_, rfl, _, _, rfl, rfl, _, rfl, _, _, rfl, rfl, (by show (0 : Int) < m.n + 1; omega), ?_⟩
    refine ⟨_, rfl, .inl ⟨rfl, _, .inl (.inl ec2)⟩, _, rfl, _, rfl, k, aft m.n k, rfl, fun u hu => ?_⟩
    have s2 : Same H1 _ := same_new (o := .tup [.int (pr k (aft m.n k)).1, .int (pr k (aft m.n k)).2]) hu
    have eu2 : (upd H1 u (.tup [.int (pr k (aft m.n k)).1, .int (pr k (aft m.n k)).2])) u = some (.tup [.int (pr k (aft m.n k)).1, .int (pr k (aft m.n k)).2]) := upd_same
    generalize upd H1 u (.tup [.int (pr k (aft m.n k)).1, .int (pr k (aft m.n k)).2]) = H2 at *
    refine ⟨c2, ys, _, rfl, rfl, s2 _ _ ec2, small200' (by omega), ?_⟩
    have t3 := TupS.put (o := .lst (ys ++ [V.ref u])) (s2 _ _ ec2)
    have s03 : Same H _ := same_put (o := .lst (ys ++ [V.ref u])) (s1.trans s2) hc2
    have ec3 : (upd H2 c2 (.lst (ys ++ [V.ref u]))) c2 = some (.lst (ys ++ [V.ref u])) := upd_same
    have hY3 : PrL K (upd H2 c2 (.lst (ys ++ [V.ref u]))) (ys ++ [V.ref u]) ((dom.filter fun q => decide (q ∈ m.cut)).map (shP k 1) ++ [pr k (aft m.n k)]) := ((hY.mono s2).tups t3).app (.one ⟨u, rfl, t3 _ _ eu2⟩)
    have hF3 : FD K (upd H2 c2 (.lst (ys ++ [V.ref u]))) d2 (dom.map (shP k 1)) (fun q => m.f (dnP k q)) := FD.other (hF2.mono s2) (s2 _ _ ec2) hcd.symm (fun ys z => nomatch z)
    generalize upd H2 c2 (.lst (ys ++ [V.ref u])) = H3 at *
    refine ⟨_, rfl, _, rfl, _, rfl, _, rfl, _, _, rfl, rfl, small200 (by show 2 ≤ 200; decide), fun q hq => ?_⟩
    have s4 : Same H3 _ := same_new (o := .tup [.int k, .int (k + 1)]) hq
    have eq4 : (upd H3 q (.tup [.int k, .int (k + 1)])) q = some (.tup [.int k, .int (k + 1)]) := upd_same
    show ∃ _ _, _
    generalize upd H3 q (.tup [.int k, .int (k + 1)]) = H4 at *
    have s04 := s03.trans s4
    obtain ⟨⟨kz, ez, rz⟩, nz, sz⟩ := hF3.mono s4
    have hzl := rz.length
    rw [List.length_map] at hzl
    have hp1 := FD.put nz sz ez rz hn1 (hsm2 _ ((gT _).mpr (.inr (.inl rfl)))) (hv.mono s04)
    have ec4 := s4 _ _ ec3
    have hY4 := hY3.mono s4
    refine ⟨d2, _, rfl, DPut.t ez (key_pk (p := (k, k + 1)) eq4) (small200' (by omega)), ?_⟩
    have t5 : TupS H4 (upd H4 d2 (.dT (putK kz (pk (k, k + 1)) (.ref wx)))) := fun w ys ew => by rw [upd_ne (ne_of ew ez (fun z => nomatch z))]; exact ew
    have s05 : Same H _ := same_put (o := .dT (putK kz (pk (k, k + 1)) (.ref wx))) s04 hd2
    have ec5 : (upd H4 d2 (.dT (putK kz (pk (k, k + 1)) (.ref wx)))) c2 = some (.lst (ys ++ [V.ref u])) := by rw [upd_ne hcd]; exact ec4
    have hY5 := hY4.tups t5
    generalize upd H4 d2 (.dT (putK kz (pk (k, k + 1)) (.ref wx))) = H5 at *
    refine ⟨_, rfl, _, rfl, _, rfl, _, _, rfl, rfl, _, rfl, k + 1, aft m.n k, rfl, fun tq htq => ?_⟩
    have s6 : Same H5 _ := same_new (o := .tup [.int (pr (k + 1) (aft m.n k)).1, .int (pr (k + 1) (aft m.n k)).2]) htq
    have etq : (upd H5 tq (.tup [.int (pr (k + 1) (aft m.n k)).1, .int (pr (k + 1) (aft m.n k)).2])) tq = some (.tup [.int (pr (k + 1) (aft m.n k)).1, .int (pr (k + 1) (aft m.n k)).2]) := upd_same
    generalize upd H5 tq (.tup [.int (pr (k + 1) (aft m.n k)).1, .int (pr (k + 1) (aft m.n k)).2]) = H6 at *
    have s06 := s05.trans s6
    obtain ⟨⟨ky, ey, ry⟩, ny, sy⟩ := hp1.mono s6
    have hyl3 := ry.length
    rw [List.length_append, List.length_map] at hyl3
    have hp2 := FD.put ny sy ey ry hn2 (hsm2 _ ((gT _).mpr (.inr (.inr rfl)))) (hw.mono s06)
    have ec6 := s6 _ _ ec5
    have hY6 := hY5.mono s6
    refine ⟨d2, _, rfl, DPut.t ey (key_pk (p := pr (k + 1) (aft m.n k)) etq) (small200' (by rw [hyl3]; show dom.length + 1 < 200; omega)), ?_⟩
    have t7 : TupS H6 (upd H6 d2 (.dT (putK ky (pk (pr (k + 1) (aft m.n k))) (.ref wy)))) := fun w ys ew => by rw [upd_ne (ne_of ew ey (fun z => nomatch z))]; exact ew
    have s07 : Same H _ := same_put (o := .dT (putK ky (pk (pr (k + 1) (aft m.n k))) (.ref wy))) s06 hd2
    have ec7 : (upd H6 d2 (.dT (putK ky (pk (pr (k + 1) (aft m.n k))) (.ref wy)))) c2 = some (.lst (ys ++ [V.ref u])) := by rw [upd_ne hcd]; exact ec6
    have hY7 := hY6.tups t7
    generalize upd H6 d2 (.dT (putK ky (pk (pr (k + 1) (aft m.n k))) (.ref wy))) = H7 at *
    refine ⟨_, rfl, _, rfl, c2, _, _, rfl, .inl (.inl ec7), hY7, fun zs r1 hZ hr1 => ?_⟩
    rw [cutG_law hG.isC hF.nd hdm] at hZ
    have s8 : Same H7 _ := same_new (o := .lst zs) hr1
    have er8 : (upd H7 r1 (.lst zs)) r1 = some (.lst zs) := upd_same
    have hr10 : H r1 = none := none_back s07 hr1
    generalize upd H7 r1 (.lst zs) = H8 at *
    refine ⟨_, rfl, small200 (by show 3 ≤ 200; decide), fun t' ht' => ?_⟩
    have s9 : Same H8 _ := same_new (o := .tup [.int (m.n + 1), .ref r1, .ref d2]) ht'
    have et9 : (upd H8 t' (.tup [.int (m.n + 1), .ref r1, .ref d2])) t' = some (.tup [.int (m.n + 1), .ref r1, .ref d2]) := upd_same
    generalize upd H8 t' (.tup [.int (m.n + 1), .ref r1, .ref d2]) = H9 at *
    refine ⟨_, rfl, _, _, rfl, rfl, small200 (by show 2 ≤ 200; decide), fun a ha => ?_⟩
    have sA : Same H9 _ := same_new (o := .tup [.str "yes", .int (k + 1)]) ha
    have eaA : (upd H9 a (.tup [.str "yes", .int (k + 1)])) a = some (.tup [.str "yes", .int (k + 1)]) := upd_same
    refine ⟨small200 (by show 2 ≤ 200; decide), fun r2 hr2 => ?_⟩
    have sB : Same _ (upd (upd H9 a (.tup [.str "yes", .int (k + 1)])) r2 (.tup [.ref t', .ref a])) := same_new hr2
    have s8B := (s9.trans sA).trans sB
    have sAll := s07.trans (s8.trans s8B)
    refine kk _ r2 t' (.ref a) sAll upd_same ⟨⟨r1, d2, zs, _, (sA.trans sB) _ _ et9, s8B _ _ er8, (hZ.mono s8).mono s8B, hp2.mono (s8.trans s8B), hdm2, fun hm => ?_⟩, hGG⟩ ⟨a, rfl, sB _ _ eaA⟩
    obtain ⟨o, eo⟩ := hB _ hm
    rw [hr10] at eo
    cases eo

theorem kept_away {v : Int} : keptB v (-1) = awayP v := by
  funext q
  unfold keptB awayP
  rw [decide_eq_false (by decide)]
  rfl
theorem cutD_law {n v : Int} {cut dom : List (Int × Int)} (hC : IsCut n cut) (hf : Free v cut) (nd : dom.Nodup) (hdm : ∀ p, p ∈ dom ↔ p ∈ tiesS n cut) : sort2 ((((dom.filter (awayP v)).filter fun q => decide (q ∈ cut.filter fun q => decide (q ≠ ear n v)))).map (shP v (-1))) = cutD n cut v := by
  unfold cutD
  refine sort2_eq (List.Perm.map _ ((List.perm_ext_iff_of_nodup ((nd.sublist List.filter_sublist).sublist List.filter_sublist) (hC.nd.sublist List.filter_sublist)).mpr fun q => ?_))
  rw [List.mem_filter, decide_eq_true_eq, List.mem_filter, hdm q]
  refine ⟨fun z => z.2, fun z => ⟨⟨sort2_mem.mpr (List.mem_append_right _ (List.mem_filter.mp z).1), ?_⟩, z⟩⟩
  unfold awayP
  have := hf q (List.mem_filter.mp z).1
  rw [Bool.not_eq_true', decide_eq_false_iff_not]
  omega
def sp_ldraw (K : PySem.W.Frag) : Sp := fun vs H Q _ => ∃ (A : List Addr) (t : Addr) (m : MSt) (v : Int), vs = [.ref t, .int v] ∧ StAt K H A t m ∧ (∀ b ∈ A, ∃ o, H b = some o) ∧
  ∀ H' r t' a, Same H H' → H' r = some (.tup [.ref t', a]) → StAt K H' A t' (mdl m (.draw v)).1 → AnsAt K H' a (mdl m (.draw v)).2 → Q (.ref r) H'
theorem ok__law_draw (T : Env K mg) : FnOk P w K mg base CX0 3 T.a__law_draw T.fd__law_draw ["_law_state", "_law_post"] (sp_ldraw K) := by
  refine T.F__law_draw.ok sc__law_draw (fun vs H Q E h => ?_) (fun cdv A outer s H vs Q E hr h => ?_)
  · obtain ⟨B, t, m, v, rfl, _⟩ := h
    rfl
  · obtain ⟨B, t, m, v, rfl, hS, hB, kk⟩ := h
    refine ⟨_, (pss_cons (ps_set (i := 2) sc__law_draw.nd rfl (.inl rfl) (pe_ix ix_tup (pv 0) pe_int (fun _ _ => rfl)))
 (pss_cons (ps_if (pt_not (pt_chain op_le op_lt pe_int (pv 1) (pv 2)))
 (pss_one (ps_ret (pe_tup (pa_cons (pv 0) (pa_cons (pe_tup (pa_cons pe_str (pa_cons pe_int pa_nil))) pa_nil)))))
 pss_nil)
 (pss_cons (ps_if (pt_cmpR op_eq (pv 2) pe_int (nomark _))
 (pss_one (ps_ret (pe_tup (pa_cons (pv 0) (pa_cons (pe_tup (pa_cons pe_str (pa_cons pe_int pa_nil))) pa_nil)))))
 pss_nil)
 (pss_cons (ps_for PassesOwn.never rfl (pi_list (pe_ix ix_tup (pv 0) pe_int (fun _ _ => rfl))) (pg_name (i := 3) sc__law_draw.nd rfl (.inl rfl))
 (pss_one (ps_if (pt_cmpR op_in_seq (pv 1) (pv 3) (by rfl))
 (pss_one (ps_ret (pe_tup (pa_cons (pv 0) (pa_cons (pe_tup (pa_cons pe_str (pa_cons pe_int pa_nil))) pa_nil)))))
 pss_nil)))
 (pss_cons (ps_set (i := 4) sc__law_draw.nd rfl (.inr rfl) (pe_tup (pa_cons (pe_op op_mod (pe_op op_sub (pe_op op_add (pv 1) (pv 2)) pe_int) (pv 2)) (pa_cons (pe_op op_mod (pe_op op_add (pv 1) pe_int) (pv 2)) pa_nil))))
 (pss_cons (ps_set (i := 5) sc__law_draw.nd rfl (.inl rfl) (pe_tup (pa_cons (pe_dget (hu_of hr) (pe_ix ix_tup (pv 0) pe_int (fun _ _ => rfl)) (pe_call (ok__law_pair T) (hr.mono (by decide)) (by rfl) T.g__law_pair T.F__law_pair.kp T.b__law_pair .nil pass0 (pa_cons (pe_ix ix_tup (pv 4) pe_int (fun _ _ => rfl)) (pa_cons (pv 1) pa_nil))) (fun _ _ => rfl)) (pa_cons (pe_dget (hu_of hr) (pe_ix ix_tup (pv 0) pe_int (fun _ _ => rfl)) (pe_call (ok__law_pair T) (hr.mono (by decide)) (by rfl) T.g__law_pair T.F__law_pair.kp T.b__law_pair .nil pass0 (pa_cons (pe_ix ix_tup (pv 4) pe_int (fun _ _ => rfl)) (pa_cons (pv 1) pa_nil))) (fun _ _ => rfl)) pa_nil))))
 (pss_cons (ps_set (i := 6) sc__law_draw.nd rfl (.inl rfl) (pe_call (ok__law_shift T) (hr.mono (by decide)) (by rfl) T.g__law_shift T.F__law_shift.kp T.b__law_shift .nil pass0 (pa_cons (pe_tup (pa_cons (pv 2) (pa_cons (pe_lc (own := [("_law_one", 7)]) (by rfl) sc__law_draw.nd (pi_list (pe_ix ix_tup (pv 0) pe_int (fun _ _ => rfl))) (blkOk_by (own := [("_law_one", 7)]) (N := ["_law_state", "_law_post", "_law_n", "_law_rope", "_law_ends", "_law_told_two", "_law_late", "_law_one"]) (sc := defScope s__law_draw) (by decide +kernel)) (fun _ _ _ _ _ => (pg_name (i := 7) sc__law_draw.nd rfl (.inl rfl))) (fun _ _ _ _ _ => (pts_one (pt_cmpR (r := rEqP2 K true) (op_neP2 (by have h_ := hr.units; exact h_)) (pv 7) (pe_call (ok__law_pair T) (hr.mono (by decide)) (by rfl) T.g__law_pair T.F__law_pair.kp T.b__law_pair .nil pass0 (pa_cons (pe_ix (r := rIxT K) ix_tup (pv 4) pe_int (fun _ _ => rfl)) (pa_cons (pe_ix (r := rIxT K) ix_tup (pv 4) pe_int (fun _ _ => rfl)) pa_nil))) (nomark _)))) (fun _ _ _ _ _ => (pv 7))) (pa_cons (pe_ix ix_tup (pv 0) pe_int (fun _ _ => rfl)) pa_nil)))) (pa_cons (pv 1) (pa_cons (pe_un un_neg pe_int) pa_nil)))))
 (pss_one (ps_ret (pe_tup (pa_cons (pe_tup (pa_cons (pe_ix ix_tup (pv 6) pe_int (fun _ _ => rfl)) (pa_cons (pe_callB cr_sort2 (by rfl) T.m_sorted (by decide +kernel) (pa_cons (pe_ix ix_tup (pv 6) pe_int (fun _ _ => rfl)) pa_nil)) (pa_cons (pe_ix ix_tup (pv 6) pe_int (fun _ _ => rfl)) pa_nil)))) (pa_cons (pe_tup (pa_cons pe_str (pa_cons (pv 5) pa_nil))) pa_nil)))))))))))), ?_⟩
    obtain ⟨⟨c, d, xs, dom, et, ec, hX, hF, hdm, hcn⟩, hG⟩ := id hS
    have ht : SqT K H t [.int m.n, .ref c, .ref d] := .inl (.inl et)
    have out : ∀ j : Int, mdl m (.draw v) = (m, .no j) → ∀ a, H a = none → ∀ r, (upd H a (.tup [.str "no", .int j])) r = none → Q (.ref r) (upd (upd H a (.tup [.str "no", .int j])) r (.tup [.ref t, .ref a])) := fun j e a ha r hr2 => by
      have s1 : Same H _ := same_new (o := .tup [.str "no", .int j]) ha
      have s2 : Same (upd H a (.tup [.str "no", .int j])) _ := same_new (o := .tup [.ref t, .ref a]) hr2
      refine kk _ r t (.ref a) (s1.trans s2) upd_same ?_ ?_
      · rw [e]; exact hS.mono (s1.trans s2)
      · rw [e]; exact ⟨a, rfl, s2 _ _ upd_same⟩
    refine ⟨_, rfl, t, _, _, _, rfl, rfl, ht, atI_nat (j := 0) rfl, ?_⟩
    refine ⟨_, rfl, _, _, rfl, rfl, _, rfl, ?_⟩
    show if decide (0 ≤ v) = true then _ else _
    by_cases h0 : 0 ≤ v
    case neg =>
      refine iteDF h0 ?_
      refine ⟨_, rfl, ?_⟩
      show if true = true then _ else _
      refine iteT ?_
      refine ⟨_, rfl, small200 (by show 2 ≤ 200; decide), fun a ha => ⟨small200 (by show 2 ≤ 200; decide), fun r hr2 => ?_⟩⟩
      exact out 1 (if_pos fun g => h0 g.1) a ha r hr2
    refine iteDT h0 ?_
    refine ⟨_, rfl, _, _, rfl, rfl, _, rfl, ?_⟩
    show if (!decide (v < m.n)) = true then _ else _
    by_cases h1 : v < m.n
    case neg =>
      rw [decide_eq_false h1]
      refine iteT ?_
      refine ⟨_, rfl, small200 (by show 2 ≤ 200; decide), fun a ha => ⟨small200 (by show 2 ≤ 200; decide), fun r hr2 => ?_⟩⟩
      exact out 1 (if_pos fun g => h1 g.2) a ha r hr2
    rw [decide_eq_true h1]
    refine iteF ?_
    have np : ¬ ¬ (0 ≤ v ∧ v < m.n) := fun z => z ⟨h0, h1⟩
    refine ⟨_, rfl, rfl, _, rfl, ?_⟩
    show if decide (V.int m.n = V.int 3) = true then _ else _
    by_cases c3 : m.n = 3
    · refine iteDT (congrArg V.int c3) ?_
      refine ⟨_, rfl, small200 (by show 2 ≤ 200; decide), fun a ha => ⟨small200 (by show 2 ≤ 200; decide), fun r hr2 => ?_⟩⟩
      exact out 5 ((if_neg np).trans (if_pos c3)) a ha r hr2
    refine iteDF (fun z => c3 (V.int.inj z)) ?_
    have h3 := hG.three
    have h4 : 4 ≤ m.n := by omega
    have h9 := hG.few
    have hxl := hX.length
    refine ⟨_, rfl, t, _, _, _, rfl, rfl, ht, atI_nat (j := 1) rfl, c, rfl, ⟨_, .inl (.inl ec)⟩, for_list (K := K) (a := c) (xs := xs) (fun i σ H' => ∃ y, σ = [some (.ref t), some (.int v), some (.int m.n), y, none, none, none, none] ∧ H' = H ∧ Free v (m.cut.take i)) ⟨_, rfl, rfl, (fun q hq => by rw [List.take_zero] at hq; cases hq)⟩ (fun i σ H' _ ⟨_, _, e, _⟩ => by rw [e]; exact .inl (.inl ec)) ?_ ?_⟩
    · rintro i x' σ H' hi ⟨y, rfl, rfl, hfi⟩
      obtain ⟨e, he, w, rfl, hw⟩ := hX.at hi
      refine ⟨_, rfl, _, rfl, w, [.int e.1, .int e.2], rfl, .inr (.inl (.inl hw)), rfl, rfl, _, rfl, ?_⟩
      show if inV (V.int v) [V.int e.1, V.int e.2] = true then _ else _
      rw [inV2]
      by_cases c : v = e.1 ∨ v = e.2
      · refine iteDT c ?_
        refine ⟨_, rfl, small200 (by show 2 ≤ 200; decide), fun a ha => ⟨small200 (by show 2 ≤ 200; decide), fun r hr2 => ?_⟩⟩
        exact out 6 ((if_neg np).trans ((if_neg c3).trans (if_pos (free_any.mpr fun z => by have := z e (List.mem_of_getElem? he); omega)))) a ha r hr2
      · refine iteDF c ?_
        refine ⟨_, rfl, rfl, fun q hq => ?_⟩
        rw [take_more he] at hq
        rcases List.mem_append.mp hq with z | z
        · exact hfi q z
        · rw [List.mem_singleton.mp z]; omega
    rintro σ H' ⟨y, rfl, rfl, hf⟩
    rw [List.take_of_length_le (by omega)] at hf
    have em : mdl m (.draw v) = (drawM m v, .sides (m.f (pr ((v - 1) % m.n) v)) (m.f (pr v ((v + 1) % m.n)))) := (if_neg np).trans ((if_neg c3).trans (if_neg (fun z => free_any.mp z hf)))
    rw [em] at kk
    have ee : (v + m.n - 1) % m.n = (v - 1) % m.n := by rw [show v + m.n - 1 = (v - 1) + m.n * 1 by omega, Int.add_mul_emod_self_left]
    have hGD := drawM_good hG h4 h0 h1 hf
    obtain ⟨gC, gT⟩ := shrinkG hG.isC h4 h0 h1 hf
    have hsm2 := ties_small gC hGD.most
    obtain ⟨dnd, ddm⟩ := draw_dom hG.isC h4 h0 h1 hf hF.nd hdm
    obtain ⟨t1, t2⟩ := side_tie hG.isC h0 h1
    have hmost := hG.most
    have ha : ∀ q : Int × Int, awayP v q = true ↔ (q.1 ≠ v ∧ q.2 ≠ v) := fun q => by
      unfold awayP
      rw [Bool.not_eq_true', decide_eq_false_iff_not]
      omega
    obtain ⟨⟨kvs, ek, rk⟩, nd, sm⟩ := id hF
    obtain ⟨va, ga, hva⟩ := Ents.get rk ((hdm _).mpr t1)
    obtain ⟨vb, gb, hvb⟩ := Ents.get rk ((hdm _).mpr t2)
    refine ⟨_, rfl, _, rfl, _, _, rfl, rfl, _, _, rfl, rfl, _, rfl, _, _, rfl, rfl, (by show (0 : Int) < m.n; omega), _, rfl, _, _, rfl, rfl, _, rfl, _, _, rfl, rfl, (by show (0 : Int) < m.n; omega), small200 (by show 2 ≤ 200; decide), fun te hte => ?_⟩
    have s1 : Same H' _ := same_new (o := .tup [.int ((v + m.n - 1) % m.n), .int ((v + 1) % m.n)]) hte
    have e1 : (upd H' te (.tup [.int ((v + m.n - 1) % m.n), .int ((v + 1) % m.n)])) te = some (.tup [.int ((v + m.n - 1) % m.n), .int ((v + 1) % m.n)]) := upd_same
    generalize upd H' te (.tup [.int ((v + m.n - 1) % m.n), .int ((v + 1) % m.n)]) = H1 at *
    have hT1 : ∀ {H2}, Same H1 H2 → SqT K H2 te [.int ((v + m.n - 1) % m.n), .int ((v + 1) % m.n)] := fun s => .inl (.inl (s _ _ e1))
    refine ⟨_, rfl, t, _, _, _, rfl, rfl, .inl (.inl (s1 _ _ et)), atI_nat (j := 2) rfl, _, rfl, te, _, _, _, rfl, rfl, hT1 (Same.refl _), atI_nat (j := 0) rfl, _, rfl, (v + m.n - 1) % m.n, v, rfl, fun u1 hu1 => ?_⟩
    have s2 : Same H1 _ := same_new (o := .tup [.int (pr ((v + m.n - 1) % m.n) v).1, .int (pr ((v + m.n - 1) % m.n) v).2]) hu1
    have e2 : (upd H1 u1 (.tup [.int (pr ((v + m.n - 1) % m.n) v).1, .int (pr ((v + m.n - 1) % m.n) v).2])) u1 = some (.tup [.int (pr ((v - 1) % m.n) v).1, .int (pr ((v - 1) % m.n) v).2]) := by rw [upd_same, ee]
    generalize upd H1 u1 (.tup [.int (pr ((v + m.n - 1) % m.n) v).1, .int (pr ((v + m.n - 1) % m.n) v).2]) = H2 at *
    have s12 := s1.trans s2
    refine ⟨d, va, rfl, .inr ⟨kvs, pk (pr ((v - 1) % m.n) v), u1, .inl (s12 _ _ ek), rfl, key_pk e2, ga.symm⟩, ?_⟩
    refine ⟨_, rfl, t, _, _, _, rfl, rfl, .inl (.inl (s12 _ _ et)), atI_nat (j := 2) rfl, _, rfl, te, _, _, _, rfl, rfl, hT1 s2, atI_nat (j := 1) rfl, _, rfl, (v + 1) % m.n, v, rfl, fun u2 hu2 => ?_⟩
    have s3 : Same H2 _ := same_new (o := .tup [.int (pr ((v + 1) % m.n) v).1, .int (pr ((v + 1) % m.n) v).2]) hu2
    have e3 : (upd H2 u2 (.tup [.int (pr ((v + 1) % m.n) v).1, .int (pr ((v + 1) % m.n) v).2])) u2 = some (.tup [.int (pr v ((v + 1) % m.n)).1, .int (pr v ((v + 1) % m.n)).2]) := by rw [upd_same, pr_comm]
    generalize upd H2 u2 (.tup [.int (pr ((v + 1) % m.n) v).1, .int (pr ((v + 1) % m.n) v).2]) = H3 at *
    have s13 := s12.trans s3
    refine ⟨d, vb, rfl, .inr ⟨kvs, pk (pr v ((v + 1) % m.n)), u2, .inl (s13 _ _ ek), rfl, key_pk e3, gb.symm⟩, ?_⟩
    refine ⟨small200 (by show 2 ≤ 200; decide), fun tt htt => ?_⟩
    have s4 : Same H3 _ := same_new (o := .tup [va, vb]) htt
    have e4 : (upd H3 tt (.tup [va, vb])) tt = some (.tup [va, vb]) := upd_same
    generalize upd H3 tt (.tup [va, vb]) = H4 at *
    have s14 := s13.trans s4
    have s24 := (s2.trans s3).trans s4
    refine ⟨_, rfl, _, rfl, t, _, _, _, rfl, rfl, .inl (.inl (s14 _ _ et)), atI_nat (j := 1) rfl, c, rfl, ⟨_, .inl (.inl (s14 _ _ ec))⟩, fun D hD => ?_⟩
    refine lc_list (K := K) (a := c) (xs := xs) (fun i H' => ∃ ws, Same H4 H' ∧ H' D = some (.lst ws) ∧ PrL K H' ws ((m.cut.take i).filter fun q => decide (q ≠ ear m.n v))) ⟨[], same_new hD, upd_same, by rw [List.take_zero]; exact .nil⟩ ?_ ?_ ?_
    · rintro i H' _ ⟨ws, s3, _, _⟩
      exact .inl (.inl (s3 _ _ (s14 _ _ ec)))
    · rintro i x' H' hi ⟨ws, sD, hz, hW⟩
      obtain ⟨q', hq', hx⟩ := hX.at hi
      have hx' := (hx.mono s14).mono sD
      have hil : i < m.cut.length := (List.getElem?_eq_some_iff.mp hq').1
      have hzl := hW.length
      have hfl : ((m.cut.take i).filter fun q => decide (q ≠ ear m.n v)).length ≤ i := Nat.le_trans (List.length_filter_le _ _) (by rw [List.length_take]; omega)
      have s2D := s24.trans sD
      refine ⟨rfl, _, rfl, _, rfl, te, _, _, _, rfl, rfl, hT1 s2D, atI_nat (j := 0) rfl, _, rfl, te, _, _, _, rfl, rfl, hT1 s2D, atI_nat (j := 1) rfl, (v + m.n - 1) % m.n, (v + 1) % m.n, rfl, fun u3 hu3 => ?_⟩
      have s5 : Same H' _ := same_new (o := .tup [.int (pr ((v + m.n - 1) % m.n) ((v + 1) % m.n)).1, .int (pr ((v + m.n - 1) % m.n) ((v + 1) % m.n)).2]) hu3
      have e5 : (upd H' u3 (.tup [.int (pr ((v + m.n - 1) % m.n) ((v + 1) % m.n)).1, .int (pr ((v + m.n - 1) % m.n) ((v + 1) % m.n)).2])) u3 = some (.tup [.int (ear m.n v).1, .int (ear m.n v).2]) := by rw [upd_same, ee]; rfl
      generalize upd H' u3 (.tup [.int (pr ((v + m.n - 1) % m.n) ((v + 1) % m.n)).1, .int (pr ((v + m.n - 1) % m.n) ((v + 1) % m.n)).2]) = H5 at *
      have hz5 := s5 _ _ hz
      have hW5 := hW.mono s5
      have hx5 := hx'.mono s5
      refine ⟨q', ear m.n v, hx5, ⟨u3, rfl, e5⟩, _, rfl, ?_⟩
      show if (!decide (q' = ear m.n v)) = true then _ else _
      rw [take_more hq', filter_more]
      by_cases e : q' = ear m.n v
      · rw [decide_eq_true e]
        refine iteF ?_
        rw [if_neg (by simp [e]), List.append_nil]
        exact ⟨ws, sD.trans s5, hz5, hW5⟩
      · rw [decide_eq_false e]
        refine iteT ?_
        rw [if_pos (by simpa using e)]
        refine ⟨_, rfl, ws, hz5, small200' (by omega), ws ++ [x'], same_put (sD.trans s5) hD, upd_same, ?_⟩
        have ts := TupS.put (o := .lst (ws ++ [x'])) hz5
        exact (hW5.tups ts).app (.one (hx5.tups ts))
    · rintro H5 ⟨ws, sD, hz, hW⟩
      rw [List.take_of_length_le (by omega)] at hW
      have hfl : (m.cut.filter fun q => decide (q ≠ ear m.n v)).length ≤ m.cut.length := List.length_filter_le _ _
      have s15 := s14.trans sD
      refine ⟨_, rfl, t, _, _, _, rfl, rfl, .inl (.inl (s15 _ _ et)), atI_nat (j := 2) rfl, small200 (by show 3 ≤ 200; decide), fun tz htz => ?_⟩
      have s6 : Same H5 _ := same_new (o := .tup [.int m.n, .ref D, .ref d]) htz
      have e6 : (upd H5 tz (.tup [.int m.n, .ref D, .ref d])) tz = some (.tup [.int m.n, .ref D, .ref d]) := upd_same
      generalize upd H5 tz (.tup [.int m.n, .ref D, .ref d]) = H6 at *
      have s16 := s15.trans s6
      refine ⟨_, rfl, _, rfl, tz, D, d, m.n, v, -1, ws, _, dom, m.f, fun q => m.f (shP (v - 1) 1 q), rfl, .inr rfl, e6, s6 _ _ hz, hW.mono s6, by omega, hF.mono s16, by rw [kept_away]; exact dnd, by rw [kept_away]; exact fun q hq => hsm2 _ ((ddm _).mp (List.mem_map.mpr ⟨q, hq, rfl⟩)), by rw [kept_away]; exact fun q hq => by show m.f (shP (v - 1) 1 (shP v (-1) q)) = m.f q; rw [upP_dv ((ha q).mp (List.mem_filter.mp hq).2)], fun H7 r c2 d2 ys s7 hc2 hd2 hcd er ec2 hY hF2 => ?_⟩
      rw [kept_away] at hY hF2
      have hR7 : ∀ {H2}, Same H7 H2 → SqT K H2 r [.int (m.n + -1), .ref c2, .ref d2] := fun s => .inl (.inl (s _ _ er))
      refine ⟨_, rfl, r, _, _, _, rfl, rfl, hR7 (Same.refl _), atI_nat (j := 0) rfl, _, rfl, r, _, _, _, rfl, rfl, hR7 (Same.refl _), atI_nat (j := 1) rfl, c2, _, _, rfl, .inl (.inl ec2), hY, fun zs r1 hZ hr1 => ?_⟩
      rw [cutD_law hG.isC hf hF.nd hdm] at hZ
      have s17 := s16.trans s7
      have s8 : Same H7 _ := same_new (o := .lst zs) hr1
      have er8 : (upd H7 r1 (.lst zs)) r1 = some (.lst zs) := upd_same
      have hr10 : H' r1 = none := none_back s17 hr1
      generalize upd H7 r1 (.lst zs) = H8 at *
      refine ⟨_, rfl, r, _, _, _, rfl, rfl, hR7 s8, atI_nat (j := 2) rfl, small200 (by show 3 ≤ 200; decide), fun t' ht' => ?_⟩
      have s9 : Same H8 _ := same_new (o := .tup [.int (m.n + -1), .ref r1, .ref d2]) ht'
      have et9 : (upd H8 t' (.tup [.int (m.n + -1), .ref r1, .ref d2])) t' = some (.tup [.int (m.n - 1), .ref r1, .ref d2]) := by rw [upd_same, show m.n + -1 = m.n - 1 by omega]
      generalize upd H8 t' (.tup [.int (m.n + -1), .ref r1, .ref d2]) = H9 at *
      refine ⟨_, rfl, small200 (by show 2 ≤ 200; decide), fun a ha2 => ?_⟩
      have sA : Same H9 _ := same_new (o := .tup [.str "yes", .ref tt]) ha2
      have eaA : (upd H9 a (.tup [.str "yes", .ref tt])) a = some (.tup [.str "yes", .ref tt]) := upd_same
      refine ⟨small200 (by show 2 ≤ 200; decide), fun r2 hr2 => ?_⟩
      have sB : Same _ (upd (upd H9 a (.tup [.str "yes", .ref tt])) r2 (.tup [.ref t', .ref a])) := same_new hr2
      have s8B := (s9.trans sA).trans sB
      have s7B := s8.trans s8B
      have sAll := s17.trans s7B
      have s4B := (((sD.trans s6).trans s7).trans s7B)
      have hF2 : FD K H7 d2 ((dom.filter (awayP v)).map (shP v (-1))) (drawM m v).f := hF2
      refine kk _ r2 t' (.ref a) sAll upd_same ⟨⟨r1, d2, zs, _, (sA.trans sB) _ _ et9, s8B _ _ er8, (hZ.mono s8).mono s8B, hF2.mono s7B, ddm, fun hm => ?_⟩, hGD⟩ ⟨a, tt, va, vb, rfl, sB _ _ eaA, s4B _ _ e4, hva.mono sAll, hvb.mono sAll⟩
      obtain ⟨o, eo⟩ := hB _ hm
      rw [hr10] at eo
      cases eo

def SdD (D : Deed) : Prop := (∃ (k : Int) (x y : Int × Int), D = .set k x y ∧ Low x.1 x.2 ∧ Low y.1 y.2) ∨ ∃ v, D = .draw v
def sp_lmodelG (K : PySem.W.Frag) : Sp := fun vs H Q _ => ∃ (A : List Addr) (t : Addr) (v : V) (m : MSt) (D : Deed), vs = [.ref t, v] ∧ StAt K H A t m ∧ DeedAt K H v D ∧ SdD D ∧ (∀ b ∈ A, ∃ o, H b = some o) ∧
  ∀ H' r t' a, Same H H' → H' r = some (.tup [.ref t', a]) → StAt K H' A t' (mdl m D).1 → AnsAt K H' a (mdl m D).2 → Q (.ref r) H'
theorem ok__law_model (T : Env K mg) : FnOk P w K mg base CX0 4 T.a__law_model T.fd__law_model ["_law_state", "_law_deed"] (sp_lmodelG K) := by
  refine T.F__law_model.ok sc__law_model (fun vs H Q E h => ?_) (fun cdv A outer s H vs Q E hr h => ?_)
  · obtain ⟨B, t, v, m, D, rfl, _⟩ := h
    rfl
  · obtain ⟨B, t, v, m, D, rfl, hS, hD, hsd, hB, kk⟩ := h
    refine ⟨_, (pss_cons (ps_asg (pv 0) (pg_tup rfl (pgs_cons (pg_name (i := 2) sc__law_model.nd rfl (.inl rfl)) (pgs_cons (pg_name (i := 3) sc__law_model.nd rfl (.inr rfl)) (pgs_cons (pg_name (i := 4) sc__law_model.nd rfl (.inl rfl)) pgs_nil)))))
 (pss_cons (ps_if (pt_cmpR op_eq (pe_ix ix_tup (pv 1) pe_int (fun _ _ => rfl)) pe_str (nomark _))
 (pss_one (ps_ret (pe_call (ok__law_set T) (hr.mono (by decide)) (by rfl) T.g__law_set T.F__law_set.kp T.b__law_set .nil pass0 (pa_cons (pv 0) (pa_cons (pe_ix ix_tup (pv 1) pe_int (fun _ _ => rfl)) (pa_cons (pe_ix ix_tup (pv 1) pe_int (fun _ _ => rfl)) (pa_cons (pe_ix ix_tup (pv 1) pe_int (fun _ _ => rfl)) pa_nil)))))))
 pss_nil)
 (pss_cons (ps_if (pt_cmpR op_eq (pe_ix ix_tup (pv 1) pe_int (fun _ _ => rfl)) pe_str (nomark _))
 (pss_one (ps_ret (pe_call (ok__law_draw T) (hr.mono (by decide)) (by rfl) T.g__law_draw T.F__law_draw.kp T.b__law_draw .nil pass0 (pa_cons (pv 0) (pa_cons (pe_ix ix_tup (pv 1) pe_int (fun _ _ => rfl)) pa_nil)))))
 pss_nil)
 (pss_cons (ps_if (pt_cmpR op_eq (pe_ix ix_tup (pv 1) pe_int (fun _ _ => rfl)) pe_str (nomark _))
 pss_dead
 pss_nil)
 pss_dead)))), ?_⟩
    obtain ⟨⟨c, d, xs, dom, et, ec, hX, hF, hdm, hcn⟩, hG⟩ := id hS
    refine ⟨_, rfl, t, _, rfl, .inl (.inl et), rfl, _, _, rfl, _, _, rfl, _, _, rfl, rfl, ?_⟩
    rcases hsd with ⟨k, x, y, rfl, _, _⟩ | ⟨k, rfl⟩
    · obtain ⟨q, u, u2, rfl, eq, hu, hu2⟩ := hD
      have hq : SqT K H q [.str "set", .int k, u, u2] := .inl (.inl eq)
      refine ⟨_, rfl, q, _, _, _, rfl, rfl, hq, atI_nat (j := 0) rfl, rfl, _, rfl, iteDT rfl ?_⟩
      refine ⟨_, rfl, _, rfl, q, _, _, _, rfl, rfl, hq, atI_nat (j := 1) rfl, _, rfl, q, _, _, _, rfl, rfl, hq, atI_nat (j := 2) rfl, _, rfl, q, _, _, _, rfl, rfl, hq, atI_nat (j := 3) rfl, B, t, m, k, u, u2, x, y, rfl, hS, hu, hu2, hB, kk⟩
    · obtain ⟨q, rfl, eq⟩ := hD
      have hq : SqT K H q [.str "draw", .int k] := .inl (.inl eq)
      refine ⟨_, rfl, q, _, _, _, rfl, rfl, hq, atI_nat (j := 0) rfl, rfl, _, rfl, iteDF (by decide +kernel) ?_⟩
      refine ⟨_, rfl, q, _, _, _, rfl, rfl, hq, atI_nat (j := 0) rfl, rfl, _, rfl, iteDT rfl ?_⟩
      refine ⟨_, rfl, _, rfl, q, _, _, _, rfl, rfl, hq, atI_nat (j := 1) rfl, B, t, m, k, rfl, hS, hB, kk⟩
/-! ### a deed done -/
theorem isLen_low {x : Int × Int} (h : Low x.1 x.2) : isLen x = decide (0 < x.1) := by
  unfold isLen isPart
  rw [decide_eq_true h.pos, decide_eq_true h.one, Bool.and_true, Bool.and_true]
def sp_ldoneG (K : PySem.W.Frag) (C : Addr) : Sp := fun vs H Q _ => ∃ (A : List Addr) (p l u : Addr) (m : MSt) (ss us : List (Deed × MSt)) (v : V) (D : Deed), vs = [.ref p, v] ∧ MeadAt K C A H p l u m ss us ∧ ss.length ≤ 100 ∧ DeedAt K H v D ∧ SdD D ∧
  ∀ H' r u' us', But [p, l] H H' → MeadAt K C A H' p l u' (mdl m D).1 (if (mdl m D).2.isNo then ss else ss ++ [(D, m)]) us' → us' = (if (mdl m D).2.isNo then us else []) → AnsAt K H' (.ref r) (mdl m D).2 → Q (.ref r) H'
theorem ok__law_done (T : Env K mg) : FnOk P w K mg base CX0 5 T.a__law_done T.fd__law_done ["_law_mead", "_law_deed"] (sp_ldoneG K T.C_Mead) := by
  refine T.F__law_done.ok sc__law_done (fun vs H Q E h => ?_) (fun cdv A outer s H vs Q E hr h => ?_)
  · obtain ⟨B, p, l, u, m, ss, us, v, D, rfl, _⟩ := h
    rfl
  · obtain ⟨B, p, l, u, m, ss, us, v, D, rfl, hM, hsl, hD, hsd, kk⟩ := h
    refine ⟨_, (pss_one (ps_try_many rfl rfl takes0 (fun W pn xe tk _ => (pss_cons (ps_if (pt_cmpR op_eq (pe_ix (r := rIxT K) ix_tup (pv 1) pe_int (fun _ _ => rfl)) pe_str (nomark _))
 (pss_one (ps_ret (pe_tup (pa_cons pe_str (pa_cons (pe_methT (pv 0) T.cl_Mead T.me_Mead_set_out (ok_Mead_set_out T) (hr.mono (by decide)) T.b_Mead_set_out (fun σ => passAt tk σ) (pa_cons (pe_ix (r := rIxT K) ix_tup (pv 1) pe_int (fun _ _ => rfl)) (pa_cons (pe_ix (r := rIxT K) ix_tup (pv 1) pe_int (fun _ _ => rfl)) (pa_cons (pe_ix (r := rIxT K) ix_tup (pv 1) pe_int (fun _ _ => rfl)) pa_nil)))) pa_nil)))))
 pss_nil)
 (pss_cons (ps_if (pt_cmpR op_eq (pe_ix (r := rIxT K) ix_tup (pv 1) pe_int (fun _ _ => rfl)) pe_str (nomark _))
 (pss_one (ps_ret (pe_tup (pa_cons pe_str (pa_cons (pe_methT (pv 0) T.cl_Mead T.me_Mead_draw (ok_Mead_draw T) (hr.mono (by decide)) T.b_Mead_draw (fun σ => passAt tk σ) (pa_cons (pe_ix (r := rIxT K) ix_tup (pv 1) pe_int (fun _ _ => rfl)) pa_nil)) pa_nil)))))
 pss_nil)
 (pss_cons (ps_if (pt_cmpR op_eq (pe_ix (r := rIxT K) ix_tup (pv 1) pe_int (fun _ _ => rfl)) pe_str (nomark _))
 pss_dead
 pss_nil)
 pss_dead)))) (.cons ⟨rfl, by decide, .inl T.c_NoPost⟩ (fun a oe cls d pn hz hf => (pss_one (ps_ret (pe_tup (pa_cons pe_str (pa_cons pe_int pa_nil)))))) (.cons ⟨rfl, by decide, .inl T.c_NoRope⟩ (fun a oe cls d pn hz hf => (pss_one (ps_ret (pe_tup (pa_cons pe_str (pa_cons pe_int pa_nil)))))) (.cons ⟨rfl, by decide, .inl T.c_NoFraction⟩ (fun a oe cls d pn hz hf => (pss_one (ps_ret (pe_tup (pa_cons pe_str (pa_cons pe_int pa_nil)))))) (.cons ⟨rfl, by decide, .inl T.c_Full⟩ (fun a oe cls d pn hz hf => (pss_one (ps_ret (pe_tup (pa_cons pe_str (pa_cons pe_int pa_nil)))))) (.cons ⟨rfl, by decide, .inl T.c_Few⟩ (fun a oe cls d pn hz hf => (pss_one (ps_ret (pe_tup (pa_cons pe_str (pa_cons pe_int pa_nil)))))) (.cons ⟨rfl, by decide, .inl T.c_HasRopes⟩ (fun a oe cls d pn hz hf => (pss_one (ps_ret (pe_tup (pa_cons pe_str (pa_cons pe_int pa_nil)))))) .nil)))))))), ?_⟩
    obtain ⟨dx, t, ep, hSt⟩ := hM.ob
    have hG := hSt.good
    rcases hsd with ⟨k, x, y, rfl, hlx, hly⟩ | ⟨k, rfl⟩
    · obtain ⟨q, w, w2, rfl, eq, hw, hw2⟩ := hD
      have hq : SqT K H q [.str "set", .int k, w, w2] := .inl (.inl eq)
      refine ⟨_, rfl, q, _, _, _, rfl, rfl, hq, atI_nat (j := 0) rfl, rfl, _, rfl, iteDT rfl ?_⟩
      have eLx := isLen_low hlx
      have eLy := isLen_low hly
      refine ⟨_, rfl, p, dx, _, rfl, ep, mfl_no _ _ _ (by decide +kernel) (by decide +kernel) (by decide +kernel), ?_⟩
      refine ⟨_, rfl, q, _, _, _, rfl, rfl, hq, atI_nat (j := 1) rfl, _, rfl, q, _, _, _, rfl, rfl, hq, atI_nat (j := 2) rfl, _, rfl, q, _, _, _, rfl, rfl, hq, atI_nat (j := 3) rfl, B, p, l, u, m, ss, us, k, w, w2, x, y, rfl, hM, hsl, hw, hw2, ?_, ?_, ?_, ?_⟩
      · intro hn H1 s1
        refine ⟨true, PySem.W.exm_ref T.bs_NoPost T.e_NoPost.hd T.ty_NoPost T.sub_NoPost_NoPost, fun _ a ha => ?_, fun z => nomatch z⟩
        refine ⟨small200 (by show 2 ≤ 200; decide), fun r hr2 => ?_⟩
        have em : mdl m (.set k x y) = (m, .no 1) := if_pos hn
        rw [em] at kk
        exact kk _ r u us (But.of (s1.trans (same_new hr2))) (hM.mono (s1.trans (same_new hr2))) rfl ⟨r, rfl, upd_same⟩
      · intro hp hl H1 s1
        refine ⟨false, PySem.W.exm_ref T.bs_NoPost T.e_NoPost.hd T.ty_NoPost T.nosub_NoFraction_NoPost, (fun z => Bool.noConfusion z), (fun _ => ?_)⟩
        refine ⟨false, PySem.W.exm_ref T.bs_NoRope T.e_NoRope.hd T.ty_NoRope T.nosub_NoFraction_NoRope, (fun z => Bool.noConfusion z), (fun _ => ?_)⟩
        refine ⟨true, PySem.W.exm_ref T.bs_NoFraction T.e_NoFraction.hd T.ty_NoFraction T.sub_NoFraction_NoFraction, fun _ a ha => ?_, fun z => nomatch z⟩
        refine ⟨small200 (by show 2 ≤ 200; decide), fun r hr2 => ?_⟩
        have hx1 : x.1 < 1 ∨ y.1 < 1 := by
          rw [eLx, eLy, Bool.and_eq_false_iff, decide_eq_false_iff_not, decide_eq_false_iff_not] at hl
          omega
        have em : mdl m (.set k x y) = (m, .no 3) := (if_neg fun z => z hp).trans (if_pos hx1)
        rw [em] at kk
        exact kk _ r u us (But.of (s1.trans (same_new hr2))) (hM.mono (s1.trans (same_new hr2))) rfl ⟨r, rfl, upd_same⟩
      · intro hp hl hn H1 s1
        refine ⟨false, PySem.W.exm_ref T.bs_NoPost T.e_NoPost.hd T.ty_NoPost T.nosub_Full_NoPost, (fun z => Bool.noConfusion z), (fun _ => ?_)⟩
        refine ⟨false, PySem.W.exm_ref T.bs_NoRope T.e_NoRope.hd T.ty_NoRope T.nosub_Full_NoRope, (fun z => Bool.noConfusion z), (fun _ => ?_)⟩
        refine ⟨false, PySem.W.exm_ref T.bs_NoFraction T.e_NoFraction.hd T.ty_NoFraction T.nosub_Full_NoFraction, (fun z => Bool.noConfusion z), (fun _ => ?_)⟩
        refine ⟨true, PySem.W.exm_ref T.bs_Full T.e_Full.hd T.ty_Full T.sub_Full_Full, fun _ a ha => ?_, fun z => nomatch z⟩
        refine ⟨small200 (by show 2 ≤ 200; decide), fun r hr2 => ?_⟩
        have hx1 : ¬ (x.1 < 1 ∨ y.1 < 1) := by
          rw [eLx, eLy, Bool.and_eq_true, decide_eq_true_eq, decide_eq_true_eq] at hl
          omega
        have hm := hG.most
        have em : mdl m (.set k x y) = (m, .no 4) := (if_neg fun z => z hp).trans ((if_neg hx1).trans (if_pos (by omega)))
        rw [em] at kk
        exact kk _ r u us (But.of (s1.trans (same_new hr2))) (hM.mono (s1.trans (same_new hr2))) rfl ⟨r, rfl, upd_same⟩
      · intro hp hl hn H1 u' b1 hu hM1
        have hx1 : ¬ (x.1 < 1 ∨ y.1 < 1) := by
          rw [eLx, eLy, Bool.and_eq_true, decide_eq_true_eq, decide_eq_true_eq] at hl
          omega
        have em : mdl m (.set k x y) = (growM m k x y, .post (k + 1)) := (if_neg fun z => z hp).trans ((if_neg hx1).trans (if_neg (by omega)))
        rw [em] at kk
        refine ⟨small200 (by show 2 ≤ 200; decide), fun r hr2 => ?_⟩
        have s2 : Same H1 _ := same_new (o := .tup [.str "yes", .int (k + 1)]) hr2
        exact kk _ r u' [] (b1.trans (But.of s2)) (hM1.mono s2) rfl ⟨r, rfl, upd_same⟩
    · obtain ⟨q, rfl, eq⟩ := hD
      have hq : SqT K H q [.str "draw", .int k] := .inl (.inl eq)
      refine ⟨_, rfl, q, _, _, _, rfl, rfl, hq, atI_nat (j := 0) rfl, rfl, _, rfl, iteDF (by decide +kernel) ?_⟩
      refine ⟨_, rfl, q, _, _, _, rfl, rfl, hq, atI_nat (j := 0) rfl, rfl, _, rfl, iteDT rfl ?_⟩
      have h3 := hG.three
      refine ⟨_, rfl, p, dx, _, rfl, ep, mfl_no _ _ _ (by decide +kernel) (by decide +kernel) (by decide +kernel), ?_⟩
      refine ⟨_, rfl, q, _, _, _, rfl, rfl, hq, atI_nat (j := 1) rfl, B, p, l, u, m, ss, us, k, rfl, hM, hsl, ?_, ?_, ?_, ?_⟩
      · intro hn H1 s1
        refine ⟨true, PySem.W.exm_ref T.bs_NoPost T.e_NoPost.hd T.ty_NoPost T.sub_NoPost_NoPost, fun _ a ha => ?_, fun z => nomatch z⟩
        refine ⟨small200 (by show 2 ≤ 200; decide), fun r hr2 => ?_⟩
        have em : mdl m (.draw k) = (m, .no 1) := if_pos hn
        rw [em] at kk
        exact kk _ r u us (But.of (s1.trans (same_new hr2))) (hM.mono (s1.trans (same_new hr2))) rfl ⟨r, rfl, upd_same⟩
      · intro hp hl H1 s1
        refine ⟨false, PySem.W.exm_ref T.bs_NoPost T.e_NoPost.hd T.ty_NoPost T.nosub_Few_NoPost, (fun z => Bool.noConfusion z), (fun _ => ?_)⟩
        refine ⟨false, PySem.W.exm_ref T.bs_NoRope T.e_NoRope.hd T.ty_NoRope T.nosub_Few_NoRope, (fun z => Bool.noConfusion z), (fun _ => ?_)⟩
        refine ⟨false, PySem.W.exm_ref T.bs_NoFraction T.e_NoFraction.hd T.ty_NoFraction T.nosub_Few_NoFraction, (fun z => Bool.noConfusion z), (fun _ => ?_)⟩
        refine ⟨false, PySem.W.exm_ref T.bs_Full T.e_Full.hd T.ty_Full T.nosub_Few_Full, (fun z => Bool.noConfusion z), (fun _ => ?_)⟩
        refine ⟨true, PySem.W.exm_ref T.bs_Few T.e_Few.hd T.ty_Few T.sub_Few_Few, fun _ a ha => ?_, fun z => nomatch z⟩
        refine ⟨small200 (by show 2 ≤ 200; decide), fun r hr2 => ?_⟩
        have em : mdl m (.draw k) = (m, .no 5) := (if_neg fun z => z hp).trans (if_pos (by omega))
        rw [em] at kk
        exact kk _ r u us (But.of (s1.trans (same_new hr2))) (hM.mono (s1.trans (same_new hr2))) rfl ⟨r, rfl, upd_same⟩
      · intro hp hl hn H1 s1
        refine ⟨false, PySem.W.exm_ref T.bs_NoPost T.e_NoPost.hd T.ty_NoPost T.nosub_HasRopes_NoPost, (fun z => Bool.noConfusion z), (fun _ => ?_)⟩
        refine ⟨false, PySem.W.exm_ref T.bs_NoRope T.e_NoRope.hd T.ty_NoRope T.nosub_HasRopes_NoRope, (fun z => Bool.noConfusion z), (fun _ => ?_)⟩
        refine ⟨false, PySem.W.exm_ref T.bs_NoFraction T.e_NoFraction.hd T.ty_NoFraction T.nosub_HasRopes_NoFraction, (fun z => Bool.noConfusion z), (fun _ => ?_)⟩
        refine ⟨false, PySem.W.exm_ref T.bs_Full T.e_Full.hd T.ty_Full T.nosub_HasRopes_Full, (fun z => Bool.noConfusion z), (fun _ => ?_)⟩
        refine ⟨false, PySem.W.exm_ref T.bs_Few T.e_Few.hd T.ty_Few T.nosub_HasRopes_Few, (fun z => Bool.noConfusion z), (fun _ => ?_)⟩
        refine ⟨true, PySem.W.exm_ref T.bs_HasRopes T.e_HasRopes.hd T.ty_HasRopes T.sub_HasRopes_HasRopes, fun _ a ha => ?_, fun z => nomatch z⟩
        refine ⟨small200 (by show 2 ≤ 200; decide), fun r hr2 => ?_⟩
        have em : mdl m (.draw k) = (m, .no 6) := (if_neg fun z => z hp).trans ((if_neg (by omega)).trans (if_pos (free_any.mpr hn)))
        rw [em] at kk
        exact kk _ r u us (But.of (s1.trans (same_new hr2))) (hM.mono (s1.trans (same_new hr2))) rfl ⟨r, rfl, upd_same⟩
      · intro hp hl hf H1 u' r0 x0 y0 b1 hu er0 hx0 hy0 hM1
        have em : mdl m (.draw k) = (drawM m k, .sides (m.f (pr ((k - 1) % m.n) k)) (m.f (pr k ((k + 1) % m.n)))) := (if_neg fun z => z hp).trans ((if_neg (by omega)).trans (if_neg (fun z => free_any.mp z hf)))
        rw [em] at kk
        refine ⟨small200 (by show 2 ≤ 200; decide), fun r hr2 => ?_⟩
        have s2 : Same H1 _ := same_new (o := .tup [.str "yes", .ref r0]) hr2
        exact kk _ r u' [] (b1.trans (But.of s2)) (hM1.mono s2) rfl ⟨r, r0, x0, y0, rfl, upd_same, s2 _ _ er0, hx0.mono s2, hy0.mono s2⟩
/-! ### the law's looks -/
def sp_lanswer (K : PySem.W.Frag) : Sp := fun vs H Q _ => ∃ (r a v : V) (X : Ans) (D : Deed), vs = [r, a, v] ∧ AnsAt K H r X ∧ AnsAt K H a X ∧ DeedAt K H v D ∧ ((∃ k, X = .no k) ∨ (∃ k x y j, D = .set k x y ∧ X = .post j) ∨ ∃ k a b, D = .draw k ∧ X = .sides a b ∧ (Low a.1 a.2 ∧ a.2.natAbs.log2 < 9000) ∧ (Low b.1 b.2 ∧ b.2.natAbs.log2 < 9000)) ∧ ∀ H', Same H H' → Q (.bl true) H'
theorem ok__law_answer (T : Env K mg) : FnOk P w K mg base CX0 5 T.a__law_answer T.fd__law_answer ["_law_found", "_law_due", "_law_deed"] (sp_lanswer K) := by
  refine T.F__law_answer.ok sc__law_answer (fun vs H Q E h => ?_) (fun cdv A outer s H vs Q E hr h => ?_)
  · obtain ⟨r, a, v, X, D, rfl, _⟩ := h
    rfl
  · obtain ⟨r, a, v, X, D, rfl, h1, h2, hD, hX, kk⟩ := h
    refine ⟨_, (pss_cons (ps_if (PW.pt (pw_or (pt_cmpR op_ne (pe_ix ix_tup (pv 0) pe_int (fun _ _ => rfl)) (pe_ix ix_tup (pv 1) pe_int (fun _ _ => rfl)) (nomark _)) (pw_or1 (pt_cmpR op_eq (pe_ix ix_tup (pv 1) pe_int (fun _ _ => rfl)) pe_str (nomark _)))))
 (pss_one (ps_ret (pe_cmpR (op_eqD hr.units) (pv 0) (pv 1) (nomark _))))
 pss_nil)
 (pss_cons (ps_if (pt_cmpR op_eq (pe_ix ix_tup (pv 2) pe_int (fun _ _ => rfl)) pe_str (nomark _))
 (pss_one (ps_ret (pe_and (pe_call (ok__law_whole T) (hr.mono (by decide)) (by rfl) T.g__law_whole T.F__law_whole.kp T.b__law_whole .nil pass0 (pa_cons (pe_ix ix_tup (pv 0) pe_int (fun _ _ => rfl)) pa_nil)) (pe_one (pe_cmpR op_eq (pe_ix ix_tup (pv 0) pe_int (fun _ _ => rfl)) (pe_ix ix_tup (pv 1) pe_int (fun _ _ => rfl)) (nomark _))))))
 pss_nil)
 (pss_cons (ps_if (pt_cmpR op_eq (pe_ix ix_tup (pv 2) pe_int (fun _ _ => rfl)) pe_str (nomark _))
 pss_dead
 pss_nil)
 (pss_cons (ps_if (pt_cmpR op_eq (pe_ix ix_tup (pv 2) pe_int (fun _ _ => rfl)) pe_str (nomark _))
 (pss_cons (ps_if (PW.pt (pw_or (pt_not (pt_val (pe_callB call_isi (by rfl) T.m_isinstance (by decide +kernel) (pa_cons (pe_ix ix_tup (pv 0) pe_int (fun _ _ => rfl)) (pa_cons (pe_bltn (v := .ty "tuple") (u := .type "tuple") (by rfl) T.m_tuple (by decide +kernel) rfl) pa_nil))))) (pw_or1 (pt_cmpR op_ne (pe_callB (id := "len") call_len_seq (by rfl) T.m_len (by decide +kernel) (pa_cons (pe_ix ix_tup (pv 0) pe_int (fun _ _ => rfl)) pa_nil)) pe_int (nomark _)))))
 (pss_one (ps_ret pe_bl))
 pss_nil)
 (pss_one (ps_ret (pe_call (ok__law_parts T) (hr.mono (by decide)) (by rfl) T.g__law_parts T.F__law_parts.kp T.b__law_parts .nil pass0 (pa_cons (pe_callTy call_list_of (by rfl) T.m_list (by decide +kernel) (pa_cons (pe_ix ix_tup (pv 0) pe_int (fun _ _ => rfl)) pa_nil)) (pa_cons (pe_callTy call_list_of (by rfl) T.m_list (by decide +kernel) (pa_cons (pe_ix ix_tup (pv 1) pe_int (fun _ _ => rfl)) pa_nil)) pa_nil))))))
 pss_nil)
 pss_dead)))), ?_⟩
    rcases hX with ⟨k', rfl⟩ | ⟨k, x, y, k', rfl, rfl⟩ | ⟨k, a0, b0, rfl, rfl, la, lb⟩
    · have d1 := h1.dp
      have d2 := h2.dp
      obtain ⟨q1, rfl, e1⟩ := h1
      obtain ⟨q2, rfl, e2⟩ := h2
      have g1 : SqT K H q1 _ := .inl (.inl e1)
      have g2 : SqT K H q2 _ := .inl (.inl e2)
      refine ⟨_, rfl, q1, _, _, _, rfl, rfl, g1, atI_nat (j := 0) rfl, _, rfl, q2, _, _, _, rfl, rfl, g2, atI_nat (j := 0) rfl, rfl, _, rfl, iteNS rfl ?_⟩
      refine ⟨_, rfl, q2, _, _, _, rfl, rfl, g2, atI_nat (j := 0) rfl, rfl, _, rfl, iteDT rfl ?_⟩
      refine ⟨_, rfl, _, rfl, _, _, d1, d2, ansD_sh _, ansD_sh _, ?_⟩
      rw [SeqAt.eqv_refl _ (ansD_lay _)]
      exact kk _ (Same.refl _)
    · obtain ⟨q, w, w2, rfl, eq, hw, hw2⟩ := hD
      have hq : SqT K H q [.str "set", .int k, w, w2] := .inl (.inl eq)
      obtain ⟨q1, rfl, e1⟩ := h1
      obtain ⟨q2, rfl, e2⟩ := h2
      have g1 : SqT K H q1 _ := .inl (.inl e1)
      have g2 : SqT K H q2 _ := .inl (.inl e2)
      refine ⟨_, rfl, q1, _, _, _, rfl, rfl, g1, atI_nat (j := 0) rfl, _, rfl, q2, _, _, _, rfl, rfl, g2, atI_nat (j := 0) rfl, rfl, _, rfl, iteNS rfl ?_⟩
      refine ⟨_, rfl, q2, _, _, _, rfl, rfl, g2, atI_nat (j := 0) rfl, rfl, _, rfl, iteDF (by decide +kernel) ?_⟩
      refine ⟨_, rfl, q, _, _, _, rfl, rfl, hq, atI_nat (j := 0) rfl, rfl, _, rfl, iteDT rfl ?_⟩
      refine ⟨_, rfl, q1, _, _, _, rfl, rfl, g1, atI_nat (j := 1) rfl, ?_⟩
      refine ⟨k', rfl, true, rfl, iteT ?_⟩
      refine ⟨_, rfl, q1, _, _, _, rfl, rfl, g1, atI_nat (j := 1) rfl, _, rfl, q2, _, _, _, rfl, rfl, g2, atI_nat (j := 1) rfl, rfl, ?_⟩
      have kk := kk _ (Same.refl _)
      have e : (decide (V.int k' = V.int k')) = true := decide_eq_true rfl
      show Q (.bl (decide (V.int k' = V.int k'))) H
      rw [e]
      exact kk
    · obtain ⟨q, rfl, eq⟩ := hD
      have hq : SqT K H q [.str "draw", .int k] := .inl (.inl eq)
      obtain ⟨q1, r1, x1, y1, rfl, e1, f1, px1, py1⟩ := h1
      obtain ⟨q2, r2, x2, y2, rfl, e2, f2, px2, py2⟩ := h2
      have g1 : SqT K H q1 _ := .inl (.inl e1)
      have g2 : SqT K H q2 _ := .inl (.inl e2)
      refine ⟨_, rfl, q1, _, _, _, rfl, rfl, g1, atI_nat (j := 0) rfl, _, rfl, q2, _, _, _, rfl, rfl, g2, atI_nat (j := 0) rfl, rfl, _, rfl, iteNS rfl ?_⟩
      refine ⟨_, rfl, q2, _, _, _, rfl, rfl, g2, atI_nat (j := 0) rfl, rfl, _, rfl, iteDF (by decide +kernel) ?_⟩
      refine ⟨_, rfl, q, _, _, _, rfl, rfl, hq, atI_nat (j := 0) rfl, rfl, _, rfl, iteDF (by decide +kernel) ?_⟩
      refine ⟨_, rfl, q, _, _, _, rfl, rfl, hq, atI_nat (j := 0) rfl, rfl, _, rfl, iteDF (by decide +kernel) ?_⟩
      refine ⟨_, rfl, q, _, _, _, rfl, rfl, hq, atI_nat (j := 0) rfl, rfl, _, rfl, iteDT rfl ?_⟩
      refine ⟨_, rfl, q1, _, _, _, rfl, rfl, g1, atI_nat (j := 1) rfl, _, _, _, _, _, rfl, .ty _, .base (.tup f1), kit_ty (by decide +kernel), true, rfl, iteF ?_⟩
      refine ⟨_, rfl, q1, _, _, _, rfl, rfl, g1, atI_nat (j := 1) rfl, r1, _, rfl, .inr (.inl (.inl f1)), rfl, _, rfl, iteNS rfl ?_⟩
      refine ⟨_, rfl, q1, _, _, _, rfl, rfl, g1, atI_nat (j := 1) rfl, r1, _, rfl, .inr (.inl (.inl f1)), fun k1 hk1 => ?_⟩
      have s1 : Same H _ := same_new (o := .lst [x1, y1]) hk1
      have ek1 : (upd H k1 (.lst [x1, y1])) k1 = some (.lst [x1, y1]) := upd_same
      generalize upd H k1 (.lst [x1, y1]) = H1 at *
      refine ⟨_, rfl, q2, _, _, _, rfl, rfl, .inl (.inl (s1 _ _ e2)), atI_nat (j := 1) rfl, r2, _, rfl, .inr (.inl (.inl (s1 _ _ f2))), fun k2 hk2 => ?_⟩
      have s2 : Same H1 _ := same_new (o := .lst [x2, y2]) hk2
      have s12 := s1.trans s2
      refine ⟨k1, k2, _, _, [a0, b0], rfl, s2 _ _ ek1, upd_same, .cons (px1.mono s12) (.one (py1.mono s12)), .cons (px2.mono s12) (.one (py2.mono s12)), by simp, fun z hz => ?_, fun H' s3 => ?_⟩
      · rcases List.mem_cons.mp hz with e | hz
        · rw [e]; exact la
        · rw [List.mem_singleton.mp hz]; exact lb
      · exact kk _ (s12.trans s3)

theorem inVL (j : Int) (ls : List Int) : inV (V.int j) (ls.map V.int) = decide (j ∈ ls) := by
  induction ls with
  | nil => rfl
  | cons a ls ih =>
    show ((a == j) || inV (V.int j) (ls.map V.int)) = _
    rw [ih]
    by_cases h : a = j
    · subst h
      rw [beq_self_eq_true, Bool.true_or]
      exact (decide_eq_true List.mem_cons_self).symm
    · rw [beq_eq_false_iff_ne.mpr h, Bool.false_or]
      have e : (j ∈ a :: ls) ↔ j ∈ ls := by rw [List.mem_cons]; exact ⟨fun z => z.resolve_left fun w => h w.symm, .inr⟩
      exact (decide_eq_decide.mpr e).symm
theorem flatL (ls : List Int) : (ls.map V.int).all flatV = true := List.all_eq_true.mpr fun v hv => by
  obtain ⟨i, _, rfl⟩ := List.mem_map.mp hv
  rfl
def freeL (n : Int) (cut : List (Int × Int)) : List Int := (rng n).filter fun z => !decide (z ∈ cut.map (·.1) ++ cut.map (·.2))
theorem freeL_pos {n : Int} {cut : List (Int × Int)} (hC : IsCut n cut) : 0 < (freeL n cut).length := by
  obtain ⟨v, h0, h1, hf⟩ := free_one hC
  refine List.length_pos_of_mem (a := v) (List.mem_filter.mpr ⟨mem_rng.mpr ⟨h0, h1⟩, ?_⟩)
  rw [Bool.not_eq_true', decide_eq_false_iff_not, List.mem_append, List.mem_map, List.mem_map]
  rintro (⟨e, he, z⟩ | ⟨e, he, z⟩)
  · exact (hf e he).1 z
  · exact (hf e he).2 z
def sp_lpick (K : PySem.W.Frag) : Sp := fun vs H Q _ => ∃ (t c d : Addr) (n one other wild : Int) (xs : List V) (cut : List (Int × Int)), vs = [.ref t, .int one, .int other, .int wild] ∧ H t = some (.tup [.int n, .ref c, .ref d]) ∧ H c = some (.lst xs) ∧ PrL K H xs cut ∧ IsCut n cut ∧ n ≤ 12 ∧ cut.length ≤ 9 ∧ ∀ H' v, Same H H' → Q (.int v) H'
theorem ok__law_pick (T : Env K mg) : FnOk P w K mg base CX0 2 T.a__law_pick T.fd__law_pick ["_law_state", "_law_one", "_law_other", "_law_wild_here"] (sp_lpick K) := by
  refine T.F__law_pick.ok sc__law_pick (fun vs H Q E h => ?_) (fun cdv A outer s H vs Q E hr h => ?_)
  · obtain ⟨t, c, d, n, one, other, wild, xs, cut, rfl, _⟩ := h
    rfl
  · obtain ⟨t, c, d, n, one, other, wild, xs, cut, rfl, et, ec, hX, hC, h12, h9, kk⟩ := h
    refine ⟨_, (pss_cons (ps_set (i := 4) sc__law_pick.nd rfl (.inr rfl) (pe_op op_cat (pe_lc (own := [("_law_rope", 7)]) (by rfl) sc__law_pick.nd (pi_list (pe_ix ix_tup (pv 0) pe_int (fun _ _ => rfl))) (blkOk_by (own := [("_law_rope", 7)]) (N := ["_law_state", "_law_one", "_law_other", "_law_wild_here", "_law_held", "_law_free", "_law_post", "_law_rope"]) (sc := defScope s__law_pick) (by decide +kernel)) (fun _ _ _ _ _ => (pg_name (i := 7) sc__law_pick.nd rfl (.inl rfl))) (fun _ _ _ _ _ => pts_nil) (fun _ _ _ _ _ => (pe_ix (r := rIxT K) ix_tup (pv 7) pe_int (fun _ _ => rfl)))) (pe_lc (own := [("_law_rope", 7)]) (by rfl) sc__law_pick.nd (pi_list (pe_ix ix_tup (pv 0) pe_int (fun _ _ => rfl))) (blkOk_by (own := [("_law_rope", 7)]) (N := ["_law_state", "_law_one", "_law_other", "_law_wild_here", "_law_held", "_law_free", "_law_post", "_law_rope"]) (sc := defScope s__law_pick) (by decide +kernel)) (fun _ _ _ _ _ => (pg_name (i := 7) sc__law_pick.nd rfl (.inl rfl))) (fun _ _ _ _ _ => pts_nil) (fun _ _ _ _ _ => (pe_ix (r := rIxT K) ix_tup (pv 7) pe_int (fun _ _ => rfl))))))
 (pss_cons (ps_setLc (i := 5) (own := [("_law_post", 6)]) (by rfl) sc__law_pick.nd rfl rfl (sw_true rfl rfl rfl (by decide +kernel)) (pi_range1 (by rfl) T.m_range (pa_cons (pe_ix ix_tup (pv 0) pe_int (fun _ _ => rfl)) pa_nil)) (blkOk_by (own := [("_law_post", 6)]) (N := ["_law_state", "_law_one", "_law_other", "_law_wild_here", "_law_held", "_law_free", "_law_post", "_law_rope"]) (sc := defScope s__law_pick) (by decide +kernel)) (fun _ _ _ _ _ => (pg_name (i := 6) sc__law_pick.nd rfl (.inl rfl))) (fun _ _ _ _ _ => (pts_one (pt_cmpR (r := rIn K true) op_notIn_seq (pv 6) (pv 4) (by rfl)))) (fun _ _ _ _ _ => (pv 6)))
 (pss_cons (ps_if (pt_cmpR op_eq (pe_op op_mod (pv 3) pe_int) pe_int (nomark _))
 (pss_one (ps_ret (pe_call (ok__law_wild T) (hr.mono (by decide)) (by rfl) T.g__law_wild T.F__law_wild.kp T.b__law_wild .nil pass0 (pa_cons (pe_ix ix_tup (pv 0) pe_int (fun _ _ => rfl)) (pa_cons (pv 1) pa_nil)))))
 pss_nil)
 (pss_one (ps_ret (pe_ix ix_list (pv 5) (pe_op op_mod (pv 2) (pe_callB (id := "len") call_len_seq (by rfl) T.m_len (by decide +kernel) (pa_cons (pv 5) pa_nil))) (fun _ _ => rfl))))))), ?_⟩
    have h3 := hC.three
    have hxl := hX.length
    refine ⟨_, rfl, t, _, _, _, rfl, rfl, .inl (.inl et), atI_nat (j := 1) rfl, c, rfl, ⟨_, .inl (.inl ec)⟩, fun D hD => ?_⟩
    refine lc_list (K := K) (a := c) (xs := xs) (fun i H' => Same H H' ∧ H' D = some (.lst (((cut.take i).map (·.1)).map V.int))) ⟨same_new hD, upd_same⟩ (fun i H' _ ⟨s, _⟩ => .inl (.inl (s _ _ ec))) ?_ ?_
    · rintro i x' H' hi ⟨s3, hz⟩
      obtain ⟨e, he, w, rfl, hw⟩ := hX.at hi
      refine ⟨rfl, yes_read ?_⟩
      refine ⟨_, rfl, w, _, _, _, rfl, rfl, .inl (.inl (s3 _ _ hw)), atI_nat (j := 0) rfl, _, hz, small200' (by rw [List.length_map, List.length_map, List.length_take]; omega), same_put s3 hD, ?_⟩
      rw [upd_same, take_more he, List.map_append, List.map_append]
      rfl
    rintro H1 ⟨s1, hz1⟩
    rw [List.take_of_length_le (by omega)] at hz1
    refine ⟨_, rfl, t, _, _, _, rfl, rfl, .inl (.inl (s1 _ _ et)), atI_nat (j := 1) rfl, c, rfl, ⟨_, .inl (.inl (s1 _ _ ec))⟩, fun D2 hD2 => ?_⟩
    refine lc_list (K := K) (a := c) (xs := xs) (fun i H' => Same H1 H' ∧ H' D2 = some (.lst (((cut.take i).map (·.2)).map V.int))) ⟨same_new hD2, upd_same⟩ (fun i H' _ ⟨s, _⟩ => .inl (.inl (s _ _ (s1 _ _ ec)))) ?_ ?_
    · rintro i x' H' hi ⟨s3, hz⟩
      obtain ⟨e, he, w, rfl, hw⟩ := hX.at hi
      refine ⟨rfl, yes_read ?_⟩
      refine ⟨_, rfl, w, _, _, _, rfl, rfl, .inl (.inl (s3 _ _ (s1 _ _ hw))), atI_nat (j := 1) rfl, _, hz, small200' (by rw [List.length_map, List.length_map, List.length_take]; omega), same_put s3 hD2, ?_⟩
      rw [upd_same, take_more he, List.map_append, List.map_append]
      rfl
    rintro H2 ⟨s2, hz2⟩
    rw [List.take_of_length_le (by omega)] at hz2
    refine ⟨D, D2, _, _, rfl, rfl, s2 _ _ hz1, hz2, small200 (by rw [List.length_map, List.length_map, List.length_map, List.length_map]; omega), fun p hp => ?_⟩
    have s3 : Same H2 _ := same_new (o := .lst ((cut.map (·.1)).map V.int ++ (cut.map (·.2)).map V.int)) hp
    have e3 : (upd H2 p (.lst ((cut.map (·.1)).map V.int ++ (cut.map (·.2)).map V.int))) p = some (.lst ((cut.map (·.1) ++ cut.map (·.2)).map V.int)) := by rw [upd_same, List.map_append]
    generalize upd H2 p (.lst ((cut.map (·.1)).map V.int ++ (cut.map (·.2)).map V.int)) = H3 at *
    have s03 := (s1.trans s2).trans s3
    refine ⟨_, rfl, t, _, _, _, rfl, rfl, .inl (.inl (s03 _ _ et)), atI_nat (j := 0) rfl, ?_⟩
    refine ⟨n, rfl, by omega, by omega, fun D3 hD3 => ?_⟩
    refine lc_range (lo := 0) (n := n.toNat) (fun i H' => Same H3 H' ∧ H' D3 = some (.lst ((((rng n).take i).filter fun z => !decide (z ∈ cut.map (·.1) ++ cut.map (·.2))).map V.int))) ⟨same_new hD3, upd_same⟩ ?_ ?_
    · rintro i H' hi ⟨s4, hz⟩
      have hfl : (((rng n).take i).filter fun z => !decide (z ∈ cut.map (·.1) ++ cut.map (·.2))).length ≤ i := Nat.le_trans (List.length_filter_le _ _) (by rw [List.length_take]; omega)
      refine ⟨rfl, _, rfl, _, rfl, p, _, rfl, .inl (.inl (.inl (s4 _ _ e3))), rfl, flatL _, _, rfl, ?_⟩
      show if (!inV (V.int (0 + (i : Int))) ((cut.map (·.1) ++ cut.map (·.2)).map V.int)) = true then _ else _
      rw [inVL, Int.zero_add, rng_more n i hi, filter_more]
      by_cases c : (i : Int) ∈ cut.map (·.1) ++ cut.map (·.2)
      · rw [decide_eq_true c]
        refine iteF ?_
        rw [if_neg (by decide), List.append_nil]
        exact ⟨s4, hz⟩
      · rw [decide_eq_false c]
        refine iteT ?_
        rw [if_pos (by decide)]
        refine ⟨_, rfl, _, hz, small200' (by rw [List.length_map]; omega), same_put s4 hD3, ?_⟩
        rw [upd_same, List.map_append]
        rfl
    rintro H4 ⟨s4, hz⟩
    rw [List.take_of_length_le (by rw [rng_len]; exact Nat.le_refl _)] at hz
    have hz : H4 D3 = some (.lst ((freeL n cut).map V.int)) := hz
    have hpos := freeL_pos hC
    have s04 := s03.trans s4
    refine ⟨_, rfl, _, _, rfl, rfl, (by show (0 : Int) < _; decide), rfl, _, rfl, ite2 (fun _ => ?_) (fun _ => ?_)⟩
    · exact ⟨_, rfl, t, _, _, _, rfl, rfl, .inl (.inl (s04 _ _ et)), atI_nat (j := 0) rfl, _, rfl, n, one, rfl, h3, h12, fun H5 v s5 => kk _ v (s04.trans s5)⟩
    · refine ⟨_, rfl, _, rfl, _, rfl, D3, _, rfl, .inl (.inl (.inl hz)), ?_⟩
      have hl : (0 : Int) < (((freeL n cut).map V.int).length : Nat) := by rw [List.length_map]; omega
      have m0 := Int.emod_nonneg other (show ((((freeL n cut).map V.int).length : Nat) : Int) ≠ 0 by omega)
      have m1 := Int.emod_lt_of_pos other hl
      obtain ⟨fv, _, ev⟩ := int_at (rs := freeL n cut) (k := (other % ((((freeL n cut).map V.int).length : Nat) : Int)).toNat) (by rw [List.length_map] at m1 m0 ⊢; omega)
      rw [Int.toNat_of_nonneg m0] at ev
      exact ⟨_, _, rfl, rfl, hl, D3, _, _, _, rfl, rfl, .inl (.inl hz), ev, kk H4 fv s04⟩

def ValOk (m : MSt) : Prop := ∀ q ∈ tiesS m.n m.cut, F2 10 10 (m.f q)
theorem f2_small {x : Int × Int} (h : F2 10 10 x) : Low x.1 x.2 ∧ x.2.natAbs.log2 < 9000 := by
  have hp := h.low.pos
  have hb := h.bb
  have e : (2 : Int) ^ 10 = 1024 := by decide
  have h1 : x.2.natAbs < 2 ^ 10 := by
    have e2 : (2 : Nat) ^ 10 = 1024 := by decide
    omega
  exact ⟨h.low, Nat.lt_of_le_of_lt (Nat.log2_lt (by omega) |>.mpr (show x.2.natAbs < 2 ^ 11 from Nat.lt_trans h1 (by decide)) |> Nat.le_of_lt) (by decide)⟩
theorem draw_step {m : MSt} {v : Int} (hG : MGood m) (hv : ValOk m) : MGood (mdl m (.draw v)).1 ∧ ValOk (mdl m (.draw v)).1 ∧ ((∃ k, (mdl m (.draw v)).2 = .no k) ∨ ((mdl m (.draw v)) = (drawM m v, .sides (m.f (pr ((v - 1) % m.n) v)) (m.f (pr v ((v + 1) % m.n)))) ∧ 0 ≤ v ∧ v < m.n ∧ 4 ≤ m.n ∧ Free v m.cut ∧ F2 10 10 (m.f (pr ((v - 1) % m.n) v)) ∧ F2 10 10 (m.f (pr v ((v + 1) % m.n))))) := by
  unfold mdl
  dsimp only
  by_cases c1 : ¬ (0 ≤ v ∧ v < m.n)
  · rw [if_pos c1]; exact ⟨hG, hv, .inl ⟨_, rfl⟩⟩
  rw [if_neg c1]
  by_cases c2 : m.n = 3
  · rw [if_pos c2]; exact ⟨hG, hv, .inl ⟨_, rfl⟩⟩
  rw [if_neg c2]
  by_cases c3 : ((m.cut.map fun q => decide (v = q.1 ∨ v = q.2)).any id) = true
  · rw [if_pos c3]; exact ⟨hG, hv, .inl ⟨_, rfl⟩⟩
  rw [if_neg c3]
  have c1 := Classical.not_not.mp c1
  have hf : Free v m.cut := Classical.byContradiction fun z => c3 (free_any.mpr z)
  have h3 := hG.three
  have h4 : 4 ≤ m.n := by omega
  obtain ⟨t1, t2⟩ := side_tie hG.isC c1.1 c1.2
  exact ⟨drawM_good hG h4 c1.1 c1.2 hf, drawF_all (R := fun z => F2 10 10 z) hG h4 c1.1 c1.2 hf hv, .inr ⟨rfl, c1.1, c1.2, h4, hf, hv _ t1, hv _ t2⟩⟩
theorem draw_ans {m : MSt} {v : Int} (hG : MGood m) (hv : ValOk m) : (∃ k, (mdl m (.draw v)).2 = .no k) ∨ (∃ k x y j, Deed.draw v = .set k x y ∧ (mdl m (.draw v)).2 = .post j) ∨ ∃ k a b, Deed.draw v = .draw k ∧ (mdl m (.draw v)).2 = .sides a b ∧ (Low a.1 a.2 ∧ a.2.natAbs.log2 < 9000) ∧ (Low b.1 b.2 ∧ b.2.natAbs.log2 < 9000) := by
  rcases (draw_step (v := v) hG hv).2.2 with z | ⟨e, _, _, _, _, fa, fb⟩
  · exact .inl z
  · exact .inr (.inr ⟨v, _, _, rfl, by rw [e], f2_small fa, f2_small fb⟩)
/-- what the start left: the row, the state -/
structure BaseAt (K : PySem.W.Frag) (H : Hp) (p t c d : Addr) (rs : List Int) (n : Int) (xs : List V) (cut dom : List (Int × Int)) (f : Int × Int → Int × Int) : Prop where
  row : H p = some (.lst (rs.map V.int))
  et : H t = some (.tup [.int n, .ref c, .ref d])
  ec : H c = some (.lst xs)
  hX : PrL K H xs cut
  hF : FD K H d dom f
theorem BaseAt.mono {H H' : Hp} {p t c d : Addr} {rs : List Int} {n : Int} {xs : List V} {cut dom : List (Int × Int)} {f : Int × Int → Int × Int} (s : Same H H') (h : BaseAt K H p t c d rs n xs cut dom f) : BaseAt K H' p t c d rs n xs cut dom f := ⟨s _ _ h.row, s _ _ h.et, s _ _ h.ec, h.hX.mono s, h.hF.mono s⟩
theorem BaseAt.but {A : List Addr} {H H' : Hp} {p t c d : Addr} {rs : List Int} {n : Int} {xs : List V} {cut dom : List (Int × Int)} {f : Int × Int → Int × Int} (l : LI A H) (b : But A H H') (h1 : p ∉ A) (h2 : c ∉ A) (h : BaseAt K H p t c d rs n xs cut dom f) : BaseAt K H' p t c d rs n xs cut dom f := ⟨b.at h.row h1, l.tups b _ _ h.et, b.at h.ec h2, h.hX.tups (l.tups b), l.fd b h.hF⟩
theorem BaseAt.st {A : List Addr} {H : Hp} {p t c d : Addr} {rs : List Int} {n : Int} {xs : List V} {cut dom : List (Int × Int)} {f : Int × Int → Int × Int} (hdm : ∀ q, q ∈ dom ↔ q ∈ tiesS n cut) (hG : MGood ⟨n, cut, f⟩) (hc : c ∉ A) (h : BaseAt K H p t c d rs n xs cut dom f) : StAt K H A t ⟨n, cut, f⟩ := ⟨⟨c, d, xs, dom, h.et, h.ec, h.hX, h.hF, hdm, hc⟩, hG⟩
theorem li_mead {A : List Addr} {H : Hp} {p l u : Addr} {m : MSt} {ss us : List (Deed × MSt)} {C : Addr} (h : MeadAt K C A H p l u m ss us) : LI [p, l] H := fun b hb => by
  rcases List.mem_cons.mp hb with z | hb
  · obtain ⟨dx, t, e, _⟩ := h.ob
    exact .inr ⟨_, _, _, z ▸ e⟩
  · obtain ⟨es, el, _⟩ := h.st
    exact .inl ⟨_, (List.mem_singleton.mp hb) ▸ el⟩
theorem ok_law (T : Env K mg) : FnOk P w K mg base CX0 11 T.a_law T.fd_law ["_law_script"] (sp_law K) := by
  refine T.F_law.ok sc_law (fun vs H Q E h => ?_) (fun cdv A outer s H vs Q E hr h => ?_)
  · obtain ⟨a, ns, rfl, _⟩ := h
    rfl
  · obtain ⟨a, ns, rfl, hS, hl, q⟩ := h
    refine ⟨_, (pss_cons (ps_set (i := 1) sc_law.nd rfl (.inl rfl) (pe_call (ok__law_flow T) (hr.mono (by decide)) (by rfl) T.g__law_flow T.F__law_flow.kp T.b__law_flow .nil pass0 (pa_cons (pv 0) (pa_cons pe_int pa_nil))))
 (pss_cons (ps_set (i := 2) sc_law.nd rfl (.inl rfl) (pe_call (ok__law_start T) (hr.mono (by decide)) (by rfl) T.g__law_start T.F__law_start.kp T.b__law_start .nil pass0 (pa_cons (pe_slice sl_list (pv 1) (po_some pe_int) po_none) pa_nil)))
 (pss_cons (ps_set (i := 3) sc_law.nd rfl (.inl rfl) (pe_ix ix_tup (pv 2) pe_int (fun _ _ => rfl)))
 (pss_cons (ps_set (i := 4) sc_law.nd rfl (.inl rfl) (pe_make T.mk_Mead (ok_Mead___init__ T) (hr.mono (by decide)) (by rfl) T.c_Mead T.b_Mead___init__ .nil passL (pa_cons (pv 3) (pa_cons (pe_callTy call_list_of (by rfl) T.m_list (by decide +kernel) (pa_cons (pe_ix ix_tup (pv 2) pe_int (fun _ _ => rfl)) pa_nil)) (pa_cons (pe_callTy (call_dictT (by exact hr.units)) (by rfl) T.m_dict (by decide +kernel) (pa_cons (pe_ix ix_tup (pv 2) pe_int (fun _ _ => rfl)) pa_nil)) pa_nil)))))
 (pss_cons (ps_set (i := 5) sc_law.nd rfl (.inl rfl) (pe_tup (pa_cons pe_str (pa_cons (pe_call (ok__law_pick T) (hr.mono (by decide)) (by rfl) T.g__law_pick T.F__law_pick.kp T.b__law_pick .nil pass0 (pa_cons (pv 2) (pa_cons (pe_ix ix_list (pv 1) pe_int (fun _ _ => rfl)) (pa_cons (pe_ix ix_list (pv 1) pe_int (fun _ _ => rfl)) (pa_cons (pe_ix ix_list (pv 1) pe_int (fun _ _ => rfl)) pa_nil))))) pa_nil))))
 (pss_cons (ps_asg (pe_call (ok__law_model T) (hr.mono (by decide)) (by rfl) T.g__law_model T.F__law_model.kp T.b__law_model .nil pass0 (pa_cons (pv 2) (pa_cons (pv 5) pa_nil))) (pg_tup rfl (pgs_cons (pg_name (i := 6) sc_law.nd rfl (.inl rfl)) (pgs_cons (pg_name (i := 7) sc_law.nd rfl (.inl rfl)) pgs_nil))))
 (pss_cons (ps_set (i := 8) sc_law.nd rfl (.inl rfl) (pe_call (ok__law_done T) (hr.mono (by decide)) (by rfl) T.g__law_done T.F__law_done.kp T.b__law_done .nil pass0 (pa_cons (pv 4) (pa_cons (pv 5) pa_nil))))
 (pss_cons (ps_if (PW.pt (pw_or (pt_not (pt_val (pe_call (ok__law_answer T) (hr.mono (by decide)) (by rfl) T.g__law_answer T.F__law_answer.kp T.b__law_answer .nil pass0 (pa_cons (pv 8) (pa_cons (pv 7) (pa_cons (pv 5) pa_nil)))))) (pw_or1 (pt_not (pt_val (pe_call (ok__law_is_at T) (hr.mono (by decide)) (by rfl) T.g__law_is_at T.F__law_is_at.kp T.b__law_is_at .nil pass0 (pa_cons (pv 4) (pa_cons (pv 6) pa_nil))))))))
 (pss_one (ps_ret pe_bl))
 pss_nil)
 (C8.pss_cut (ps_if (PW.pt (pw_and (pt_cmpR op_eq (pe_ix ix_tup (pv 7) pe_int (fun _ _ => rfl)) pe_str (nomark _)) (pw_and1 (pt_cmpR op_gt (pe_ix ix_tup (pv 5) pe_int (fun _ _ => rfl)) pe_int (nomark _)))))
 (pss_cons (ps_set (i := 9) sc_law.nd rfl (.inl rfl) (pe_tup (pa_cons pe_str (pa_cons (pe_op op_sub (pe_ix ix_tup (pv 5) pe_int (fun _ _ => rfl)) pe_int) (pa_cons (pe_ix ix_tup (pe_ix ix_tup (pv 8) pe_int (fun _ _ => rfl)) pe_int (fun _ _ => rfl)) (pa_cons (pe_ix ix_tup (pe_ix ix_tup (pv 8) pe_int (fun _ _ => rfl)) pe_int (fun _ _ => rfl)) pa_nil))))))
 (pss_one (ps_if (PW.pt (pw_or (pt_cmpR (op_neD hr.units) (pe_call (ok__law_done T) (hr.mono (by decide)) (by rfl) T.g__law_done T.F__law_done.kp T.b__law_done .nil pass0 (pa_cons (pv 4) (pa_cons (pv 9) pa_nil))) (pe_tup (pa_cons pe_str (pa_cons (pe_ix ix_tup (pv 5) pe_int (fun _ _ => rfl)) pa_nil))) (nomark _)) (pw_or1 (pt_not (pt_val (pe_call (ok__law_is_at T) (hr.mono (by decide)) (by rfl) T.g__law_is_at T.F__law_is_at.kp T.b__law_is_at .nil pass0 (pa_cons (pv 4) (pa_cons (pv 2) pa_nil))))))))
 (pss_one (ps_ret pe_bl))
 pss_nil)))
 pss_nil)
 (pss_cons (ps_set (i := 4) sc_law.nd rfl (.inl rfl) (pe_make T.mk_Mead (ok_Mead___init__ T) (hr.mono (by decide)) (by rfl) T.c_Mead T.b_Mead___init__ .nil passL (pa_cons (pv 3) (pa_cons (pe_callTy call_list_of (by rfl) T.m_list (by decide +kernel) (pa_cons (pe_ix ix_tup (pv 2) pe_int (fun _ _ => rfl)) pa_nil)) (pa_cons (pe_callTy (call_dictT (by exact hr.units)) (by rfl) T.m_dict (by decide +kernel) (pa_cons (pe_ix ix_tup (pv 2) pe_int (fun _ _ => rfl)) pa_nil)) pa_nil)))))
 (pss_cons (ps_for PassesOwn.never rfl (pi_range1 (by rfl) T.m_range (pa_cons (pe_op op_add pe_int (pe_op op_mod (pe_ix ix_list (pv 1) pe_int (fun _ _ => rfl)) pe_int)) pa_nil)) (pg_name (i := 10) sc_law.nd rfl (.inl rfl))
 (pss_cons (ps_set (i := 5) sc_law.nd rfl (.inl rfl) (pe_tup (pa_cons pe_str (pa_cons (pe_call (ok__law_pick T) (hr.mono (by decide)) (by rfl) T.g__law_pick T.F__law_pick.kp T.b__law_pick .nil pass0 (pa_cons (pv 2) (pa_cons (pe_ix ix_list (pv 1) (pe_op op_add pe_int (pv 10)) (fun _ _ => rfl)) (pa_cons (pe_ix ix_list (pv 1) (pe_op op_add pe_int (pv 10)) (fun _ _ => rfl)) (pa_cons (pe_op op_fdivX (pe_ix ix_list (pv 1) pe_int (fun _ _ => rfl)) (pe_op op_add (pv 10) pe_int)) pa_nil))))) pa_nil))))
 (pss_cons (ps_asg (pe_call (ok__law_model T) (hr.mono (by decide)) (by rfl) T.g__law_model T.F__law_model.kp T.b__law_model .nil pass0 (pa_cons (pv 2) (pa_cons (pv 5) pa_nil))) (pg_tup rfl (pgs_cons (pg_name (i := 2) sc_law.nd rfl (.inl rfl)) (pgs_cons (pg_name (i := 7) sc_law.nd rfl (.inl rfl)) pgs_nil))))
 (pss_one (ps_if (PW.pt (pw_or (pt_not (pt_val (pe_call (ok__law_answer T) (hr.mono (by decide)) (by rfl) T.g__law_answer T.F__law_answer.kp T.b__law_answer .nil pass0 (pa_cons (pe_call (ok__law_done T) (hr.mono (by decide)) (by rfl) T.g__law_done T.F__law_done.kp T.b__law_done .nil pass0 (pa_cons (pv 4) (pa_cons (pv 5) pa_nil))) (pa_cons (pv 7) (pa_cons (pv 5) pa_nil)))))) (pw_or1 (pt_not (pt_val (pe_call (ok__law_is_at T) (hr.mono (by decide)) (by rfl) T.g__law_is_at T.F__law_is_at.kp T.b__law_is_at .nil pass0 (pa_cons (pv 4) (pa_cons (pv 2) pa_nil))))))))
 (pss_one (ps_ret pe_bl))
 pss_nil)))))
 (pss_one (ps_ret pe_bl))))))))))))), ?_⟩
    refine ⟨_, rfl, a, ns, 54, rfl, hS, hl, by decide, by decide, fun H1 p rs hs hp hlen hro hrow => ?_⟩
    have hlen : rs.length = 54 := hlen
    have hR : ∀ {H2}, Same H1 H2 → SqL K H2 p (rs.map V.int) := fun s => .inl (.inl (s _ _ hrow))
    obtain ⟨r0, m0, a0⟩ := int_at (rs := rs) (k := 0) (by omega)
    obtain ⟨r1, m1, a1⟩ := int_at (rs := rs) (k := 1) (by omega)
    obtain ⟨r2, m2, a2⟩ := int_at (rs := rs) (k := 2) (by omega)
    obtain ⟨r3, m3, a3⟩ := int_at (rs := rs) (k := 3) (by omega)
    refine ⟨_, rfl, 14, rfl, p, _, rfl, hR (Same.refl _), fun q1 hq1 => ?_⟩
    have s1 := same_new (o := .lst (cutV (rs.map V.int) (some 14) none)) hq1
    have e1 : (upd H1 q1 (.lst (cutV (rs.map V.int) (some 14) none))) q1 = some (.lst ((rs.drop 14).map V.int)) := by rw [upd_same, show (14 : Int) = ((14 : Nat) : Int) from rfl, cut_ok]
    generalize upd H1 q1 (.lst (cutV (rs.map V.int) (some 14) none)) = H2 at *
    refine ⟨q1, rs.drop 14, rfl, .inl (.inl e1), by rw [List.length_drop]; omega, rowOk_drop hro 14, fun H4 t c d n xs cut dom f s3 et ec hX hF hdm hG hf _ => ?_⟩
    have s3 := s1.trans s3
    have ht : SqT K H4 t [.int n, .ref c, .ref d] := .inl (.inl et)
    have h3 := hG.three
    have h12 := hG.most
    have h3 : 3 ≤ n := h3
    have h12 : n ≤ 12 := h12
    have h9 : cut.length ≤ 9 := hG.few
    have hB4 : BaseAt K H4 p t c d rs n xs cut dom f := ⟨s3 _ _ hrow, et, ec, hX, hF⟩
    have hV : ValOk ⟨n, cut, f⟩ := fun q hq => (hf q hq).more (by decide) (by decide)
    refine ⟨_, rfl, t, _, _, _, rfl, rfl, ht, atI_nat (j := 0) rfl, ?_⟩
    refine ⟨_, rfl, _, rfl, t, _, _, _, rfl, rfl, ht, atI_nat (j := 1) rfl, c, xs, rfl, .inl (.inl (.inl ec)), fun k1 hk1 => ?_⟩
    have s4 : Same H4 _ := same_new (o := .lst xs) hk1
    have ek1 : (upd H4 k1 (.lst xs)) k1 = some (.lst xs) := upd_same
    generalize upd H4 k1 (.lst xs) = H5 at *
    obtain ⟨⟨kvs, ek, rk⟩, nd, sm⟩ := hF.mono s4
    refine ⟨_, rfl, t, _, _, _, rfl, rfl, .inl (.inl (s4 _ _ et)), atI_nat (j := 2) rfl, d, kvs, dom, rfl, ek, Ents.keys rk, nd, sm, fun k2 hk2 => ?_⟩
    have s5 : Same H5 _ := same_new (o := .dT kvs) hk2
    have F2' : FD K (upd H5 k2 (.dT kvs)) k2 dom f := ⟨⟨kvs, upd_same, Ents.tups (TupS.of s5) rk⟩, nd, sm⟩
    generalize upd H5 k2 (.dT kvs) = H6 at *
    have s45 := s4.trans s5
    intro x dx nx ndx nex
    have s6 : Same H6 (upd (upd H6 dx (.own x)) x (.ins T.C_Mead dx [])) := fun b o e => by
      rw [upd_ne (ne_of_none e nx), upd_ne (ne_of_none e ndx)]
      exact e
    have s46 := s45.trans s6
    have hp6 : (upd (upd H6 dx (.own x)) x (.ins T.C_Mead dx [])) x = some (.ins T.C_Mead dx []) := upd_same
    refine ⟨x, dx, k1, k2, n, xs, cut, dom, f, [], rfl, hp6, s6 _ _ (s5 _ _ ek1), hX.mono s46, F2'.mono s6, hdm, hG, fun e he => isLen_f2 (hf e ((hdm e).mp he)), by simp, (fun b hb => nomatch hb), fun H7 l u b7 hl0 hu0 hM => ⟨rfl, ?_⟩⟩
    have s47 : Same H4 H7 := But.same s46 b7 fun b hb => by rw [List.mem_singleton.mp hb]; exact none_back s45 nx
    have same6 : ∀ b, H4 b ≠ none → (upd (upd H6 dx (.own x)) x (.ins T.C_Mead dx [])) b = H6 b := fun b hb => by
      cases e : H4 b with
      | none => exact absurd e hb
      | some o => rw [upd_ne (ne_of_none (s45 _ _ e) nx), upd_ne (ne_of_none (s45 _ _ e) ndx)]
    have hnl : ∀ b o, H4 b = some o → b ∉ [x, l] := fun b o e z => by
      rcases List.mem_cons.mp z with z | z
      · exact ne_of_none (s45 _ _ e) nx z
      · rw [← List.mem_singleton.mp z, same6 b (by rw [e]; simp), s45 _ _ e] at hl0
        cases hl0
    clear hp6 s6 s46 b7 same6
    have hB7 := hB4.mono s47
    have hpn := hnl p _ hB4.row
    have hcn := hnl c _ ec
    have hcl : c ∉ [l] := fun z => hcn (List.mem_cons_of_mem _ z)
    have sq7 : SqL K H7 p (rs.map V.int) := .inl (.inl hB7.row)
    refine ⟨_, rfl, _, rfl, p, _, _, _, rfl, rfl, sq7, a1, _, rfl, p, _, _, _, rfl, rfl, sq7, a2, _, rfl, p, _, _, _, rfl, rfl, sq7, a3, t, c, d, n, r1, r2, r3, xs, cut, rfl, hB7.et, hB7.ec, hB7.hX, hG.isC, h12, h9, fun H8 v s8 => ?_⟩
    refine ⟨small200 (by show 2 ≤ 200; decide), fun wq hwq => ?_⟩
    have s9 : Same H8 _ := same_new (o := .tup [.str "draw", .int v]) hwq
    have ewq : (upd H8 wq (.tup [.str "draw", .int v])) wq = some (.tup [.str "draw", .int v]) := upd_same
    generalize upd H8 wq (.tup [.str "draw", .int v]) = H9 at *
    have s79 := s8.trans s9
    have hM9 := hM.mono s79
    have hB9 := hB7.mono s79
    have hS9 := hB9.st (A := [l]) hdm hG hcl
    have hD9 : DeedAt K H9 (.ref wq) (.draw v) := ⟨wq, rfl, ewq⟩
    refine ⟨_, rfl, _, rfl, [l], t, .ref wq, ⟨n, cut, f⟩, .draw v, rfl, hS9, hD9, .inr ⟨v, rfl⟩, (fun b hb => by obtain ⟨es, el, _⟩ := hM9.st; rw [List.mem_singleton.mp hb]; exact ⟨_, el⟩), fun HA ra t2 ax sA era hSA haA => ?_⟩
    refine ⟨ra, _, rfl, .inl (.inl era), rfl, _, _, rfl, _, _, rfl, rfl, ?_⟩
    have hMA := hM9.mono sA
    have hBA := hB9.mono sA
    have hDA := hD9.tups (TupS.of sA)
    obtain ⟨gG, gV, gX⟩ := draw_step (v := v) hG hV
    refine ⟨_, rfl, _, rfl, [], x, l, u, ⟨n, cut, f⟩, [], [], .ref wq, .draw v, rfl, hMA, by decide, hDA, .inr ⟨v, rfl⟩, fun HB r4 u4 us4 b4 hMB _ hrB => ?_⟩
    have liA := li_mead hMA
    have tAB := liA.tups b4
    have hBB := hBA.but liA b4 hpn hcn
    have haB := haA.tups tAB
    have hDB := hDA.tups tAB
    have hSB := hSA.but liA b4 fun z hz => by
      rcases List.mem_cons.mp hz with y | hz
      · obtain ⟨dx, t, e, _⟩ := hMA.ob
        exact .inr ⟨_, _, _, y ▸ e⟩
      · exact .inl hz
    refine ⟨_, rfl, _, rfl, _, rfl, .ref r4, ax, .ref wq, _, .draw v, rfl, hrB, haB, hDB, draw_ans hG hV, fun HC sC => ⟨true, rfl, iteF ?_⟩⟩
    have hMC := hMB.mono sC
    refine ⟨_, rfl, _, rfl, [], [l], x, l, u4, t2, _, _, us4, rfl, hMC, hSB.mono sC, fun q hq => (gV q hq).frac (by decide) (by decide), fun HD sD => ⟨true, rfl, iteF ?_⟩⟩
    have sBD := sC.trans sD
    have hMD := hMB.mono sBD
    have hBD := hBB.mono sBD
    have haD := haB.mono sBD
    have hrD := hrB.mono sBD
    have hcx : ∀ {H'}, BaseAt K H' p t c d rs n xs cut dom f → True := fun _ => True.intro
    refine ⟨fun σ2 H2 => ∃ y9, σ2 = [some (.ref a), some (.ref p), some (.ref t), some (.int n), some (.ref x), some (.ref wq), some (.ref t2), some ax, some (.ref r4), y9, none] ∧ BaseAt K H2 p t c d rs n xs cut dom f, ?_, ?_⟩
    · rcases gX with ⟨j, ej⟩ | ⟨em, v0, v1, h4, hf4, fa, fb⟩
      · rw [ej] at haD
        obtain ⟨qa, rfl, ea⟩ := id haD
        refine ⟨_, rfl, qa, _, _, _, rfl, rfl, .inl (.inl ea), atI_nat (j := 0) rfl, rfl, _, rfl, iteDF (by decide +kernel) ?_⟩
        refine iteF ?_
        exact ⟨_, rfl, hBD⟩
      · rw [em] at haD hrD hMD
        obtain ⟨qa, _, _, _, rfl, ea, _⟩ := id haD
        refine ⟨_, rfl, qa, _, _, _, rfl, rfl, .inl (.inl ea), atI_nat (j := 0) rfl, rfl, _, rfl, iteDT rfl ?_⟩
        have ewqD := sBD _ _ (tAB _ _ (sA _ _ ewq))
        refine ⟨_, rfl, wq, _, _, _, rfl, rfl, .inl (.inl ewqD), atI_nat (j := 1) rfl, _, _, rfl, rfl, _, rfl, ?_⟩
        show if decide (0 < v) = true then _ else _
        by_cases c0 : 0 < v
        case neg =>
          refine iteDF c0 ?_
          exact ⟨_, rfl, hBD⟩
        refine iteDT c0 ?_
        obtain ⟨q4, rr0, x0, y0, eq4, e4, f4, hx0, hy0⟩ := id hrD
        cases eq4
        refine ⟨_, rfl, wq, _, _, _, rfl, rfl, .inl (.inl ewqD), atI_nat (j := 1) rfl, _, _, rfl, rfl, _, rfl, r4, _, _, _, rfl, rfl, .inl (.inl e4), atI_nat (j := 1) rfl, rr0, _, _, _, rfl, rfl, .inl (.inl f4), atI_nat (j := 0) rfl, _, rfl, r4, _, _, _, rfl, rfl, .inl (.inl e4), atI_nat (j := 1) rfl, rr0, _, _, _, rfl, rfl, .inl (.inl f4), atI_nat (j := 1) rfl, small200 (by show 4 ≤ 200; decide), fun qa2 hqa2 => ?_⟩
        have sE : Same HD _ := same_new (o := .tup [.str "set", .int (v - 1), x0, y0]) hqa2
        have eqE : (upd HD qa2 (.tup [.str "set", .int (v - 1), x0, y0])) qa2 = some (.tup [.str "set", .int (v - 1), x0, y0]) := upd_same
        generalize upd HD qa2 (.tup [.str "set", .int (v - 1), x0, y0]) = HE at *
        have hDE : DeedAt K HE (.ref qa2) (.set (v - 1) (f (pr ((v - 1) % n) v)) (f (pr v ((v + 1) % n)))) := ⟨qa2, x0, y0, rfl, eqE, hx0.mono sE, hy0.mono sE⟩
        have fa : F2 10 10 (f (pr ((v - 1) % n) v)) := fa
        have fb : F2 10 10 (f (pr v ((v + 1) % n))) := fb
        have v1 : v < n := v1
        have h4 : 4 ≤ n := h4
        have hf4 : Free v cut := hf4
        have em2 : mdl (drawM ⟨n, cut, f⟩ v) (.set (v - 1) (f (pr ((v - 1) % n) v)) (f (pr v ((v + 1) % n)))) = (growM (drawM ⟨n, cut, f⟩ v) (v - 1) (f (pr ((v - 1) % n) v)) (f (pr v ((v + 1) % n))), .post (v - 1 + 1)) := by
          have ta := fa.top
          have tb := fb.top
          have n1 : ¬ ¬ (0 ≤ v - 1 ∧ v - 1 < (drawM ⟨n, cut, f⟩ v).n) := fun z => z ⟨by omega, show v - 1 < n - 1 by omega⟩
          have n2 : ¬ ((f (pr ((v - 1) % n) v)).1 < 1 ∨ (f (pr v ((v + 1) % n))).1 < 1) := by omega
          have n3 : ¬ (drawM ⟨n, cut, f⟩ v).n = 12 := fun z => by
            have z : n - 1 = 12 := z
            omega
          exact (if_neg n1).trans ((if_neg n2).trans (if_neg n3))
        have eM : growM (drawM ⟨n, cut, f⟩ v) (v - 1) (f (pr ((v - 1) % n) v)) (f (pr v ((v + 1) % n))) = ⟨n, cut, growF (n - 1) (v - 1) (fun q => f (shP (v - 1) 1 q)) (f (pr ((v - 1) % n) v)) (f (pr v ((v + 1) % n)))⟩ := by
          show MSt.mk (n - 1 + 1) (cutG (n - 1) (cutD n cut v) (v - 1)) _ = _
          rw [back_cut hG.isC hG.srt h4 c0 v1 hf4, show n - 1 + 1 = n by omega]
          rfl
        refine ⟨_, rfl, _, rfl, [], x, l, u4, drawM ⟨n, cut, f⟩ v, _, us4, .ref qa2, _, rfl, hMD.mono sE, (by show (1 : Nat) ≤ 100; decide), hDE, .inl ⟨_, _, _, rfl, fa.low, fb.low⟩, fun HF r5 u5 us5 b5 hMF _ hrF => ?_⟩
        rw [em2] at hMF hrF
        have hMF : MeadAt K T.C_Mead [] HF x l u5 (growM (drawM ⟨n, cut, f⟩ v) (v - 1) (f (pr ((v - 1) % n) v)) (f (pr v ((v + 1) % n)))) _ us5 := hMF
        rw [eM] at hMF
        have hBE := hBD.mono sE
        have liE := li_mead (hMD.mono sE)
        have tEF := liE.tups b5
        have hBF := hBE.but liE b5 hpn hcn
        have ewqF := tEF _ _ (sE _ _ ewqD)
        refine ⟨_, rfl, wq, _, _, _, rfl, rfl, .inl (.inl ewqF), atI_nat (j := 1) rfl, small200 (by show 2 ≤ 200; decide), fun qy hqy => ?_⟩
        have sG : Same HF _ := same_new (o := .tup [.str "yes", .int v]) hqy
        have eqG : (upd HF qy (.tup [.str "yes", .int v])) qy = some (.tup [.str "yes", .int v]) := upd_same
        generalize upd HF qy (.tup [.str "yes", .int v]) = HG at *
        have hr1 : AnsAt K HG (.ref r5) (.post (v - 1 + 1)) := hrF.mono sG
        rw [show v - 1 + 1 = v by omega] at hr1
        have hr2 : AnsAt K HG (.ref qy) (.post v) := ⟨qy, rfl, eqG⟩
        refine ⟨_, _, hr1.dp, hr2.dp, ansD_sh _, ansD_sh _, _, rfl, ?_⟩
        rw [SeqAt.eqv_refl _ (ansD_lay _)]
        refine iteF ?_
        have hBG := hBF.mono sG
        have hSG := (hBG.st (A := [l]) hdm hG hcl).val (g := growF (n - 1) (v - 1) (fun q => f (shP (v - 1) 1 q)) (f (pr ((v - 1) % n) v)) (f (pr v ((v + 1) % n)))) fun q hq => (back_val hG.isC h4 c0 v1 hf4 hq).symm
        refine ⟨_, rfl, _, rfl, [], [l], x, l, u5, t, _, _, us5, rfl, hMF.mono sG, hSG, fun q hq => by show Frac 4000 (growF (n - 1) (v - 1) (fun q => f (shP (v - 1) 1 q)) (f (pr ((v - 1) % n) v)) (f (pr v ((v + 1) % n))) q); rw [back_val hG.isC h4 c0 v1 hf4 hq]; exact (hV q hq).frac (by decide) (by decide), fun HH sH => ⟨true, rfl, iteF ?_⟩⟩
        exact ⟨_, rfl, hBG.mono sH⟩
    rintro _ HE ⟨y9, rfl, hBE⟩
    clear hM hMA hMB hMC hMD hM9 hSA hSB hS9 haA haB haD hrB hrD hB9 hBA hBB hBD hB7 hDA hDB hD9 liA tAB b4 sBD sC sD sA s79 s8 s9
    have hB4 := hBE
    clear hBE
    refine ⟨_, rfl, _, rfl, t, _, _, _, rfl, rfl, .inl (.inl hB4.et), atI_nat (j := 1) rfl, c, xs, rfl, .inl (.inl (.inl hB4.ec)), fun k1 hk1 => ?_⟩
    have s4 : Same HE _ := same_new (o := .lst xs) hk1
    have ek1 : (upd HE k1 (.lst xs)) k1 = some (.lst xs) := upd_same
    generalize upd HE k1 (.lst xs) = H5 at *
    obtain ⟨⟨kvs, ek, rk⟩, nd, sm⟩ := hB4.hF.mono s4
    refine ⟨_, rfl, t, _, _, _, rfl, rfl, .inl (.inl (s4 _ _ hB4.et)), atI_nat (j := 2) rfl, d, kvs, dom, rfl, ek, Ents.keys rk, nd, sm, fun k2 hk2 => ?_⟩
    have s5 : Same H5 _ := same_new (o := .dT kvs) hk2
    have F2' : FD K (upd H5 k2 (.dT kvs)) k2 dom f := ⟨⟨kvs, upd_same, Ents.tups (TupS.of s5) rk⟩, nd, sm⟩
    generalize upd H5 k2 (.dT kvs) = H6 at *
    have s45 := s4.trans s5
    intro x2 dx2 nx ndx nex
    have s6 : Same H6 (upd (upd H6 dx2 (.own x2)) x2 (.ins T.C_Mead dx2 [])) := fun b o e => by
      rw [upd_ne (ne_of_none e nx), upd_ne (ne_of_none e ndx)]
      exact e
    have s46 := s45.trans s6
    have hp6 : (upd (upd H6 dx2 (.own x2)) x2 (.ins T.C_Mead dx2 [])) x2 = some (.ins T.C_Mead dx2 []) := upd_same
    refine ⟨x2, dx2, k1, k2, n, xs, cut, dom, f, [], rfl, hp6, s6 _ _ (s5 _ _ ek1), hB4.hX.mono s46, F2'.mono s6, hdm, hG, fun e he => isLen_f2 (hf e ((hdm e).mp he)), by simp, (fun b hb => nomatch hb), fun H7 l u b7 hl0 hu0 hM => ⟨rfl, ?_⟩⟩
    have s47 : Same HE H7 := But.same s46 b7 fun b hb => by rw [List.mem_singleton.mp hb]; exact none_back s45 nx
    have same6 : ∀ b, HE b ≠ none → (upd (upd H6 dx2 (.own x2)) x2 (.ins T.C_Mead dx2 [])) b = H6 b := fun b hb => by
      cases e : HE b with
      | none => exact absurd e hb
      | some o => rw [upd_ne (ne_of_none (s45 _ _ e) nx), upd_ne (ne_of_none (s45 _ _ e) ndx)]
    have hnl : ∀ b o, HE b = some o → b ∉ [x2, l] := fun b o e z => by
      rcases List.mem_cons.mp z with z | z
      · exact ne_of_none (s45 _ _ e) nx z
      · rw [← List.mem_singleton.mp z, same6 b (by rw [e]; simp), s45 _ _ e] at hl0
        cases hl0
    clear hp6 s6 s46 b7 same6
    have hB7 := hB4.mono s47
    have hpn := hnl p _ hB4.row
    have hcn := hnl c _ hB4.ec
    have hcl : c ∉ [l] := fun z => hcn (List.mem_cons_of_mem _ z)
    have sq7 : SqL K H7 p (rs.map V.int) := .inl (.inl hB7.row)
    have hS7 := hB7.st (A := [l]) hdm hG hcl
    have li7 := li_mead hM
    have m4 := And.intro (Int.emod_nonneg r0 (show (4 : Int) ≠ 0 by decide)) (Int.emod_lt_of_pos r0 (show (0 : Int) < 4 by decide))
    refine ⟨_, rfl, p, _, _, _, rfl, rfl, sq7, a0, _, _, rfl, rfl, (by show (0 : Int) < _; decide), _, _, rfl, rfl, 1 + r0 % 4, rfl, by omega, by omega, for_range (lo := 0) (n := (1 + r0 % 4).toNat) (fun i σ H' => ∃ (t' u' : Addr) (m' : MSt) (ss' us' : List (Deed × MSt)) (y5 y6 y7 y8 y9 y10 : Option V), σ = [some (.ref a), some (.ref p), some (.ref t'), some (.int n), some (.ref x2), y5, y6, y7, y8, y9, y10] ∧ But [x2, l] H7 H' ∧ MeadAt K T.C_Mead [] H' x2 l u' m' ss' us' ∧ StAt K H' [l] t' m' ∧ ValOk m' ∧ ss'.length ≤ i)
      ⟨t, u, ⟨n, cut, f⟩, [], [], _, _, _, _, _, _, rfl, But.refl _ _, hM, hS7, hV, Nat.le_refl _⟩ ?_ ?_⟩
    · rintro i σ H' hi ⟨t', u', m', ss', us', y5, y6, y7, y8, y9, y10, rfl, bA, hM1, hS1, hV1, hsl⟩
      have i4 : i < 4 := by omega
      obtain ⟨rb, mb, ab⟩ := int_at (rs := rs) (k := 4 + i) (by omega)
      obtain ⟨rc, mc, ac⟩ := int_at (rs := rs) (k := 8 + i) (by omega)
      have ab' : atI (rs.map V.int) (4 + (0 + (i : Int))) = some (.int rb) := by rw [show (4 + (0 + (i : Int))) = ((4 + i : Nat) : Int) by omega]; exact ab
      have ac' : atI (rs.map V.int) (8 + (0 + (i : Int))) = some (.int rc) := by rw [show (8 + (0 + (i : Int))) = ((8 + i : Nat) : Int) by omega]; exact ac
      have ep : H' p = some (.lst (rs.map V.int)) := bA.at hB7.row hpn
      have sq : SqL K H' p (rs.map V.int) := .inl (.inl ep)
      have hG1 := hS1.good
      obtain ⟨⟨c1, d1, xs1, dom1, et1, ec1, hX1, hF1, hdm1, hcn1⟩, _⟩ := id hS1
      refine ⟨_, rfl, _, rfl, _, rfl, _, _, rfl, rfl, p, _, _, _, rfl, rfl, sq, ab', _, rfl, _, rfl, _, _, rfl, rfl, p, _, _, _, rfl, rfl, sq, ac', _, rfl, p, _, _, _, rfl, rfl, sq, a3, _, rfl, _, _, rfl, rfl, ?_⟩
      refine ⟨_, _, rfl, rfl, ⟨by omega, log_small (b := 10) (by decide) (by omega) (by decide)⟩, t', c1, d1, m'.n, rb, rc, _, xs1, m'.cut, rfl, et1, ec1, hX1, hG1.isC, hG1.most, hG1.few, fun H8 v s8 => ?_⟩
      refine ⟨small200 (by show 2 ≤ 200; decide), fun wq hwq => ?_⟩
      have s9 : Same H8 _ := same_new (o := .tup [.str "draw", .int v]) hwq
      have ewq : (upd H8 wq (.tup [.str "draw", .int v])) wq = some (.tup [.str "draw", .int v]) := upd_same
      generalize upd H8 wq (.tup [.str "draw", .int v]) = H9 at *
      have s79 := s8.trans s9
      have hM9 := hM1.mono s79
      have hS9 := hS1.mono s79
      have hD9 : DeedAt K H9 (.ref wq) (.draw v) := ⟨wq, rfl, ewq⟩
      refine ⟨_, rfl, _, rfl, [l], t', .ref wq, m', .draw v, rfl, hS9, hD9, .inr ⟨v, rfl⟩, (fun b hb => by obtain ⟨es, el, _⟩ := hM9.st; rw [List.mem_singleton.mp hb]; exact ⟨_, el⟩), fun HA ra t2 ax sA era hSA haA => ?_⟩
      refine ⟨ra, _, rfl, .inl (.inl era), rfl, _, _, rfl, _, _, rfl, rfl, ?_⟩
      have hMA := hM9.mono sA
      have hDA := hD9.tups (TupS.of sA)
      obtain ⟨gG, gV, _⟩ := draw_step (v := v) hG1 hV1
      refine ⟨_, rfl, _, rfl, [], x2, l, u', m', ss', us', .ref wq, .draw v, rfl, hMA, by omega, hDA, .inr ⟨v, rfl⟩, fun HB r4 u4 us4 b4 hMB _ hrB => ?_⟩
      have liA := li_mead hMA
      have tAB := liA.tups b4
      have haB := haA.tups tAB
      have hDB := hDA.tups tAB
      have hSB := hSA.but liA b4 fun z hz => by
        rcases List.mem_cons.mp hz with y | hz
        · obtain ⟨dx, t, e, _⟩ := hMA.ob
          exact .inr ⟨_, _, _, y ▸ e⟩
        · exact .inl hz
      refine ⟨_, rfl, _, rfl, .ref r4, ax, .ref wq, _, .draw v, rfl, hrB, haB, hDB, draw_ans hG1 hV1, fun HC sC => ⟨true, rfl, iteF ?_⟩⟩
      have hMC := hMB.mono sC
      refine ⟨_, rfl, _, rfl, [], [l], x2, l, u4, t2, _, _, us4, rfl, hMC, hSB.mono sC, fun q hq => (gV q hq).frac (by decide) (by decide), fun HD sD => ⟨true, rfl, iteF ?_⟩⟩
      have sBD := sC.trans sD
      refine ⟨t2, u4, _, _, us4, _, _, _, _, _, _, rfl, ((bA.trans (But.of (s79.trans sA))).trans b4).trans (But.of sBD), hMB.mono sBD, hSB.mono sBD, gV, ?_⟩
      split
      · omega
      · rw [List.length_append, List.length_singleton]; omega
    · rintro σ H' ⟨t', u', m', ss', us', y5, y6, y7, y8, y9, y10, rfl, bA, hM1, hS1, hV1, hsl⟩
      exact q H'

theorem all_mk {P : Program} {w : World} {K : PySem.W.Frag} {h : Heap} {mg : Str → Option Value} {fa : Addr} (X : K.In h) (G : h.Ns mainGlobals mg) (hfa : mg "law" = some (.ref fa)) (c0 : obsM K = valM)
    : ∃ fd : FuncData, (∀ (s : Shared) (v : Value), BindsTo s fd ⟨[v], []⟩ [("_law_script", v)]) ∧ ∀ base : Heap, K.In base → base.Ns mainGlobals mg → FnOk P w K mg base CX0 11 fa fd ["_law_script"] (sp_law K) := by
  have c : falM.map (fun f => f K) = falM.map (fun _ => true) ∧ fnlM.map (fun d => He.fnObs K d.at_) = fnlM.map He.FnD.val := ⟨congrArg Prod.fst c0, congrArg Prod.snd c0⟩
  have e := hfa.symm.trans (PySem.W.mg_of X G (He.eqO_ok (fctM c.1 (f := faM323) (j := 323) rfl)))
  cases e
  obtain ⟨oc_pair_of, od_pair_of, osl_pair_of, kV_pair_of, doc_pair_of, pm_pair_of, an_pair_of, cd_pair_of, ct_pair_of, l_pair_of, c_pair_of⟩ := He.fn_ok (d := dM_pair_of) (fntM c.2 (d := dM_pair_of) (j := 0) rfl) (fctM c.1 (f := faM148) (j := 148) rfl)
  have l1_pair_of : K.lookup (He.ga K "pair_of") = some ⟨oc_pair_of, od_pair_of, .func (PySem.W.fnOf "pair_of" "pair_of" (defArgs s_pair_of) (defBody s_pair_of) (defScope s_pair_of) .none kV_pair_of doc_pair_of pm_pair_of an_pair_of cd_pair_of ct_pair_of), osl_pair_of⟩ := l_pair_of
  have F_pair_of := fun_mk (st := s_pair_of) l1_pair_of c_pair_of (fctM c.1 (f := faM147) (j := 147) rfl)
  obtain ⟨oc_need_post, od_need_post, osl_need_post, kV_need_post, doc_need_post, pm_need_post, an_need_post, cd_need_post, ct_need_post, l_need_post, c_need_post⟩ := He.fn_ok (d := dM_need_post) (fntM c.2 (d := dM_need_post) (j := 1) rfl) (fctM c.1 (f := faM151) (j := 151) rfl)
  have l1_need_post : K.lookup (He.ga K "need_post") = some ⟨oc_need_post, od_need_post, .func (PySem.W.fnOf "need_post" "need_post" (defArgs s_need_post) (defBody s_need_post) (defScope s_need_post) .none kV_need_post doc_need_post pm_need_post an_need_post cd_need_post ct_need_post), osl_need_post⟩ := l_need_post
  have F_need_post := fun_mk (st := s_need_post) l1_need_post c_need_post (fctM c.1 (f := faM150) (j := 150) rfl)
  obtain ⟨oc_crosses, od_crosses, osl_crosses, kV_crosses, doc_crosses, pm_crosses, an_crosses, cd_crosses, ct_crosses, l_crosses, c_crosses⟩ := He.fn_ok (d := dM_crosses) (fntM c.2 (d := dM_crosses) (j := 2) rfl) (fctM c.1 (f := faM154) (j := 154) rfl)
  have l1_crosses : K.lookup (He.ga K "crosses") = some ⟨oc_crosses, od_crosses, .func (PySem.W.fnOf "crosses" "crosses" (defArgs s_crosses) (defBody s_crosses) (defScope s_crosses) .none kV_crosses doc_crosses pm_crosses an_crosses cd_crosses ct_crosses), osl_crosses⟩ := l_crosses
  have F_crosses := fun_mk (st := s_crosses) l1_crosses c_crosses (fctM c.1 (f := faM153) (j := 153) rfl)
  obtain ⟨oc_kept, od_kept, osl_kept, kV_kept, doc_kept, pm_kept, an_kept, cd_kept, ct_kept, l_kept, c_kept⟩ := He.fn_ok (d := dM_kept) (fntM c.2 (d := dM_kept) (j := 3) rfl) (fctM c.1 (f := faM157) (j := 157) rfl)
  have l1_kept : K.lookup (He.ga K "kept") = some ⟨oc_kept, od_kept, .func (PySem.W.fnOf "kept" "kept" (defArgs s_kept) (defBody s_kept) (defScope s_kept) .none kV_kept doc_kept pm_kept an_kept cd_kept ct_kept), osl_kept⟩ := l_kept
  have F_kept := fun_mk (st := s_kept) l1_kept c_kept (fctM c.1 (f := faM156) (j := 156) rfl)
  obtain ⟨oc_is_cutting, od_is_cutting, osl_is_cutting, kV_is_cutting, doc_is_cutting, pm_is_cutting, an_is_cutting, cd_is_cutting, ct_is_cutting, l_is_cutting, c_is_cutting⟩ := He.fn_ok (d := dM_is_cutting) (fntM c.2 (d := dM_is_cutting) (j := 4) rfl) (fctM c.1 (f := faM160) (j := 160) rfl)
  have l1_is_cutting : K.lookup (He.ga K "is_cutting") = some ⟨oc_is_cutting, od_is_cutting, .func (PySem.W.fnOf "is_cutting" "is_cutting" (defArgs s_is_cutting) (defBody s_is_cutting) (defScope s_is_cutting) .none kV_is_cutting doc_is_cutting pm_is_cutting an_is_cutting cd_is_cutting ct_is_cutting), osl_is_cutting⟩ := l_is_cutting
  have F_is_cutting := fun_mk (st := s_is_cutting) l1_is_cutting c_is_cutting (fctM c.1 (f := faM159) (j := 159) rfl)
  obtain ⟨oc_is_rope, od_is_rope, osl_is_rope, kV_is_rope, doc_is_rope, pm_is_rope, an_is_rope, cd_is_rope, ct_is_rope, l_is_rope, c_is_rope⟩ := He.fn_ok (d := dM_is_rope) (fntM c.2 (d := dM_is_rope) (j := 5) rfl) (fctM c.1 (f := faM163) (j := 163) rfl)
  have l1_is_rope : K.lookup (He.ga K "is_rope") = some ⟨oc_is_rope, od_is_rope, .func (PySem.W.fnOf "is_rope" "is_rope" (defArgs s_is_rope) (defBody s_is_rope) (defScope s_is_rope) .none kV_is_rope doc_is_rope pm_is_rope an_is_rope cd_is_rope ct_is_rope), osl_is_rope⟩ := l_is_rope
  have F_is_rope := fun_mk (st := s_is_rope) l1_is_rope c_is_rope (fctM c.1 (f := faM162) (j := 162) rfl)
  obtain ⟨oc_sides, od_sides, osl_sides, kV_sides, doc_sides, pm_sides, an_sides, cd_sides, ct_sides, l_sides, c_sides⟩ := He.fn_ok (d := dM_sides) (fntM c.2 (d := dM_sides) (j := 6) rfl) (fctM c.1 (f := faM166) (j := 166) rfl)
  have l1_sides : K.lookup (He.ga K "sides") = some ⟨oc_sides, od_sides, .func (PySem.W.fnOf "sides" "sides" (defArgs s_sides) (defBody s_sides) (defScope s_sides) .none kV_sides doc_sides pm_sides an_sides cd_sides ct_sides), osl_sides⟩ := l_sides
  have F_sides := fun_mk (st := s_sides) l1_sides c_sides (fctM c.1 (f := faM165) (j := 165) rfl)
  obtain ⟨oc_ties, od_ties, osl_ties, kV_ties, doc_ties, pm_ties, an_ties, cd_ties, ct_ties, l_ties, c_ties⟩ := He.fn_ok (d := dM_ties) (fntM c.2 (d := dM_ties) (j := 7) rfl) (fctM c.1 (f := faM169) (j := 169) rfl)
  have l1_ties : K.lookup (He.ga K "ties") = some ⟨oc_ties, od_ties, .func (PySem.W.fnOf "ties" "ties" (defArgs s_ties) (defBody s_ties) (defScope s_ties) .none kV_ties doc_ties pm_ties an_ties cd_ties ct_ties), osl_ties⟩ := l_ties
  have F_ties := fun_mk (st := s_ties) l1_ties c_ties (fctM c.1 (f := faM168) (j := 168) rfl)
  obtain ⟨oc_ropes_among, od_ropes_among, osl_ropes_among, kV_ropes_among, doc_ropes_among, pm_ropes_among, an_ropes_among, cd_ropes_among, ct_ropes_among, l_ropes_among, c_ropes_among⟩ := He.fn_ok (d := dM_ropes_among) (fntM c.2 (d := dM_ropes_among) (j := 8) rfl) (fctM c.1 (f := faM172) (j := 172) rfl)
  have l1_ropes_among : K.lookup (He.ga K "ropes_among") = some ⟨oc_ropes_among, od_ropes_among, .func (PySem.W.fnOf "ropes_among" "ropes_among" (defArgs s_ropes_among) (defBody s_ropes_among) (defScope s_ropes_among) .none kV_ropes_among doc_ropes_among pm_ropes_among an_ropes_among cd_ropes_among ct_ropes_among), osl_ropes_among⟩ := l_ropes_among
  have F_ropes_among := fun_mk (st := s_ropes_among) l1_ropes_among c_ropes_among (fctM c.1 (f := faM171) (j := 171) rfl)
  obtain ⟨oc_lowest, od_lowest, osl_lowest, kV_lowest, doc_lowest, pm_lowest, an_lowest, cd_lowest, ct_lowest, l_lowest, c_lowest⟩ := He.fn_ok (d := dM_lowest) (fntM c.2 (d := dM_lowest) (j := 9) rfl) (fctM c.1 (f := faM175) (j := 175) rfl)
  have l1_lowest : K.lookup (He.ga K "lowest") = some ⟨oc_lowest, od_lowest, .func (PySem.W.fnOf "lowest" "lowest" (defArgs s_lowest) (defBody s_lowest) (defScope s_lowest) .none kV_lowest doc_lowest pm_lowest an_lowest cd_lowest ct_lowest), osl_lowest⟩ := l_lowest
  have F_lowest := fun_mk (st := s_lowest) l1_lowest c_lowest (fctM c.1 (f := faM174) (j := 174) rfl)
  obtain ⟨oc_is_part, od_is_part, osl_is_part, kV_is_part, doc_is_part, pm_is_part, an_is_part, cd_is_part, ct_is_part, l_is_part, c_is_part⟩ := He.fn_ok (d := dM_is_part) (fntM c.2 (d := dM_is_part) (j := 10) rfl) (fctM c.1 (f := faM178) (j := 178) rfl)
  have l1_is_part : K.lookup (He.ga K "is_part") = some ⟨oc_is_part, od_is_part, .func (PySem.W.fnOf "is_part" "is_part" (defArgs s_is_part) (defBody s_is_part) (defScope s_is_part) .none kV_is_part doc_is_part pm_is_part an_is_part cd_is_part ct_is_part), osl_is_part⟩ := l_is_part
  have F_is_part := fun_mk (st := s_is_part) l1_is_part c_is_part (fctM c.1 (f := faM177) (j := 177) rfl)
  obtain ⟨oc_is_length, od_is_length, osl_is_length, kV_is_length, doc_is_length, pm_is_length, an_is_length, cd_is_length, ct_is_length, l_is_length, c_is_length⟩ := He.fn_ok (d := dM_is_length) (fntM c.2 (d := dM_is_length) (j := 11) rfl) (fctM c.1 (f := faM181) (j := 181) rfl)
  have l1_is_length : K.lookup (He.ga K "is_length") = some ⟨oc_is_length, od_is_length, .func (PySem.W.fnOf "is_length" "is_length" (defArgs s_is_length) (defBody s_is_length) (defScope s_is_length) .none kV_is_length doc_is_length pm_is_length an_is_length cd_is_length ct_is_length), osl_is_length⟩ := l_is_length
  have F_is_length := fun_mk (st := s_is_length) l1_is_length c_is_length (fctM c.1 (f := faM180) (j := 180) rfl)
  obtain ⟨oc_Mead___init__, od_Mead___init__, osl_Mead___init__, kV_Mead___init__, doc_Mead___init__, pm_Mead___init__, an_Mead___init__, cd_Mead___init__, ct_Mead___init__, l_Mead___init__, c_Mead___init__⟩ := He.fn_ok (d := dM_Mead___init__) (fntM c.2 (d := dM_Mead___init__) (j := 12) rfl) (fctM c.1 (f := faM186) (j := 186) rfl)
  have l1_Mead___init__ : K.lookup (He.ma K (He.ga K "Mead") "__init__") = some ⟨oc_Mead___init__, od_Mead___init__, .func (PySem.W.fnOf "__init__" "Mead.__init__" (defArgs s_Mead___init__) (defBody s_Mead___init__) (defScope s_Mead___init__) .none kV_Mead___init__ doc_Mead___init__ pm_Mead___init__ an_Mead___init__ cd_Mead___init__ ct_Mead___init__), osl_Mead___init__⟩ := l_Mead___init__
  have F_Mead___init__ := fun_mk (st := s_Mead___init__) l1_Mead___init__ c_Mead___init__ (fctM c.1 (f := faM185) (j := 185) rfl)
  obtain ⟨oc_Mead_posts, od_Mead_posts, osl_Mead_posts, kV_Mead_posts, doc_Mead_posts, pm_Mead_posts, an_Mead_posts, cd_Mead_posts, ct_Mead_posts, l_Mead_posts, c_Mead_posts⟩ := He.fn_ok (d := dM_Mead_posts) (fntM c.2 (d := dM_Mead_posts) (j := 13) rfl) (fctM c.1 (f := faM192) (j := 192) rfl)
  have l1_Mead_posts : K.lookup (He.ma K (He.ga K "Mead") "posts") = some ⟨oc_Mead_posts, od_Mead_posts, .func (PySem.W.fnOf "posts" "Mead.posts" (defArgs s_Mead_posts) (defBody s_Mead_posts) (defScope s_Mead_posts) .none kV_Mead_posts doc_Mead_posts pm_Mead_posts an_Mead_posts cd_Mead_posts ct_Mead_posts), osl_Mead_posts⟩ := l_Mead_posts
  have F_Mead_posts := fun_mk (st := s_Mead_posts) l1_Mead_posts c_Mead_posts (fctM c.1 (f := faM191) (j := 191) rfl)
  obtain ⟨oc_Mead_ropes, od_Mead_ropes, osl_Mead_ropes, kV_Mead_ropes, doc_Mead_ropes, pm_Mead_ropes, an_Mead_ropes, cd_Mead_ropes, ct_Mead_ropes, l_Mead_ropes, c_Mead_ropes⟩ := He.fn_ok (d := dM_Mead_ropes) (fntM c.2 (d := dM_Mead_ropes) (j := 14) rfl) (fctM c.1 (f := faM196) (j := 196) rfl)
  have l1_Mead_ropes : K.lookup (He.ma K (He.ga K "Mead") "ropes") = some ⟨oc_Mead_ropes, od_Mead_ropes, .func (PySem.W.fnOf "ropes" "Mead.ropes" (defArgs s_Mead_ropes) (defBody s_Mead_ropes) (defScope s_Mead_ropes) .none kV_Mead_ropes doc_Mead_ropes pm_Mead_ropes an_Mead_ropes cd_Mead_ropes ct_Mead_ropes), osl_Mead_ropes⟩ := l_Mead_ropes
  have F_Mead_ropes := fun_mk (st := s_Mead_ropes) l1_Mead_ropes c_Mead_ropes (fctM c.1 (f := faM195) (j := 195) rfl)
  obtain ⟨oc_Mead_lengths, od_Mead_lengths, osl_Mead_lengths, kV_Mead_lengths, doc_Mead_lengths, pm_Mead_lengths, an_Mead_lengths, cd_Mead_lengths, ct_Mead_lengths, l_Mead_lengths, c_Mead_lengths⟩ := He.fn_ok (d := dM_Mead_lengths) (fntM c.2 (d := dM_Mead_lengths) (j := 15) rfl) (fctM c.1 (f := faM200) (j := 200) rfl)
  have l1_Mead_lengths : K.lookup (He.ma K (He.ga K "Mead") "lengths") = some ⟨oc_Mead_lengths, od_Mead_lengths, .func (PySem.W.fnOf "lengths" "Mead.lengths" (defArgs s_Mead_lengths) (defBody s_Mead_lengths) (defScope s_Mead_lengths) .none kV_Mead_lengths doc_Mead_lengths pm_Mead_lengths an_Mead_lengths cd_Mead_lengths ct_Mead_lengths), osl_Mead_lengths⟩ := l_Mead_lengths
  have F_Mead_lengths := fun_mk (st := s_Mead_lengths) l1_Mead_lengths c_Mead_lengths (fctM c.1 (f := faM199) (j := 199) rfl)
  obtain ⟨oc_Mead_deeds, od_Mead_deeds, osl_Mead_deeds, kV_Mead_deeds, doc_Mead_deeds, pm_Mead_deeds, an_Mead_deeds, cd_Mead_deeds, ct_Mead_deeds, l_Mead_deeds, c_Mead_deeds⟩ := He.fn_ok (d := dM_Mead_deeds) (fntM c.2 (d := dM_Mead_deeds) (j := 16) rfl) (fctM c.1 (f := faM204) (j := 204) rfl)
  have l1_Mead_deeds : K.lookup (He.ma K (He.ga K "Mead") "deeds") = some ⟨oc_Mead_deeds, od_Mead_deeds, .func (PySem.W.fnOf "deeds" "Mead.deeds" (defArgs s_Mead_deeds) (defBody s_Mead_deeds) (defScope s_Mead_deeds) .none kV_Mead_deeds doc_Mead_deeds pm_Mead_deeds an_Mead_deeds cd_Mead_deeds ct_Mead_deeds), osl_Mead_deeds⟩ := l_Mead_deeds
  have F_Mead_deeds := fun_mk (st := s_Mead_deeds) l1_Mead_deeds c_Mead_deeds (fctM c.1 (f := faM203) (j := 203) rfl)
  obtain ⟨oc_Mead_set_out, od_Mead_set_out, osl_Mead_set_out, kV_Mead_set_out, doc_Mead_set_out, pm_Mead_set_out, an_Mead_set_out, cd_Mead_set_out, ct_Mead_set_out, l_Mead_set_out, c_Mead_set_out⟩ := He.fn_ok (d := dM_Mead_set_out) (fntM c.2 (d := dM_Mead_set_out) (j := 17) rfl) (fctM c.1 (f := faM208) (j := 208) rfl)
  have l1_Mead_set_out : K.lookup (He.ma K (He.ga K "Mead") "set_out") = some ⟨oc_Mead_set_out, od_Mead_set_out, .func (PySem.W.fnOf "set_out" "Mead.set_out" (defArgs s_Mead_set_out) (defBody s_Mead_set_out) (defScope s_Mead_set_out) .none kV_Mead_set_out doc_Mead_set_out pm_Mead_set_out an_Mead_set_out cd_Mead_set_out ct_Mead_set_out), osl_Mead_set_out⟩ := l_Mead_set_out
  have F_Mead_set_out := fun_mk (st := s_Mead_set_out) l1_Mead_set_out c_Mead_set_out (fctM c.1 (f := faM207) (j := 207) rfl)
  obtain ⟨oc_Mead_draw, od_Mead_draw, osl_Mead_draw, kV_Mead_draw, doc_Mead_draw, pm_Mead_draw, an_Mead_draw, cd_Mead_draw, ct_Mead_draw, l_Mead_draw, c_Mead_draw⟩ := He.fn_ok (d := dM_Mead_draw) (fntM c.2 (d := dM_Mead_draw) (j := 18) rfl) (fctM c.1 (f := faM212) (j := 212) rfl)
  have l1_Mead_draw : K.lookup (He.ma K (He.ga K "Mead") "draw") = some ⟨oc_Mead_draw, od_Mead_draw, .func (PySem.W.fnOf "draw" "Mead.draw" (defArgs s_Mead_draw) (defBody s_Mead_draw) (defScope s_Mead_draw) .none kV_Mead_draw doc_Mead_draw pm_Mead_draw an_Mead_draw cd_Mead_draw ct_Mead_draw), osl_Mead_draw⟩ := l_Mead_draw
  have F_Mead_draw := fun_mk (st := s_Mead_draw) l1_Mead_draw c_Mead_draw (fctM c.1 (f := faM211) (j := 211) rfl)
  obtain ⟨oc_Mead__do, od_Mead__do, osl_Mead__do, kV_Mead__do, doc_Mead__do, pm_Mead__do, an_Mead__do, cd_Mead__do, ct_Mead__do, l_Mead__do, c_Mead__do⟩ := He.fn_ok (d := dM_Mead__do) (fntM c.2 (d := dM_Mead__do) (j := 19) rfl) (fctM c.1 (f := faM216) (j := 216) rfl)
  have l1_Mead__do : K.lookup (He.ma K (He.ga K "Mead") "_do") = some ⟨oc_Mead__do, od_Mead__do, .func (PySem.W.fnOf "_do" "Mead._do" (defArgs s_Mead__do) (defBody s_Mead__do) (defScope s_Mead__do) .none kV_Mead__do doc_Mead__do pm_Mead__do an_Mead__do cd_Mead__do ct_Mead__do), osl_Mead__do⟩ := l_Mead__do
  have F_Mead__do := fun_mk (st := s_Mead__do) l1_Mead__do c_Mead__do (fctM c.1 (f := faM215) (j := 215) rfl)
  obtain ⟨oc_checked, od_checked, osl_checked, kV_checked, doc_checked, pm_checked, an_checked, cd_checked, ct_checked, l_checked, c_checked⟩ := He.fn_ok (d := dM_checked) (fntM c.2 (d := dM_checked) (j := 20) rfl) (fctM c.1 (f := faM218) (j := 218) rfl)
  have l1_checked : K.lookup (He.ga K "checked") = some ⟨oc_checked, od_checked, .func (PySem.W.fnOf "checked" "checked" (defArgs s_checked) (defBody s_checked) (defScope s_checked) .none kV_checked doc_checked pm_checked an_checked cd_checked ct_checked), osl_checked⟩ := l_checked
  have F_checked := fun_mk (st := s_checked) l1_checked c_checked (fctM c.1 (f := faM217) (j := 217) rfl)
  obtain ⟨oc_shifted, od_shifted, osl_shifted, kV_shifted, doc_shifted, pm_shifted, an_shifted, cd_shifted, ct_shifted, l_shifted, c_shifted⟩ := He.fn_ok (d := dM_shifted) (fntM c.2 (d := dM_shifted) (j := 21) rfl) (fctM c.1 (f := faM221) (j := 221) rfl)
  have l1_shifted : K.lookup (He.ga K "shifted") = some ⟨oc_shifted, od_shifted, .func (PySem.W.fnOf "shifted" "shifted" (defArgs s_shifted) (defBody s_shifted) (defScope s_shifted) .none kV_shifted doc_shifted pm_shifted an_shifted cd_shifted ct_shifted), osl_shifted⟩ := l_shifted
  have F_shifted := fun_mk (st := s_shifted) l1_shifted c_shifted (fctM c.1 (f := faM220) (j := 220) rfl)
  obtain ⟨oc__law_flow, od__law_flow, osl__law_flow, kV__law_flow, doc__law_flow, pm__law_flow, an__law_flow, cd__law_flow, ct__law_flow, l__law_flow, c__law_flow⟩ := He.fn_ok (d := dM__law_flow) (fntM c.2 (d := dM__law_flow) (j := 22) rfl) (fctM c.1 (f := faM224) (j := 224) rfl)
  have l1__law_flow : K.lookup (He.ga K "_law_flow") = some ⟨oc__law_flow, od__law_flow, .func (PySem.W.fnOf "_law_flow" "_law_flow" (defArgs s__law_flow) (defBody s__law_flow) (defScope s__law_flow) .none kV__law_flow doc__law_flow pm__law_flow an__law_flow cd__law_flow ct__law_flow), osl__law_flow⟩ := l__law_flow
  have F__law_flow := fun_mk (st := s__law_flow) l1__law_flow c__law_flow (fctM c.1 (f := faM223) (j := 223) rfl)
  obtain ⟨oc__law_whole, od__law_whole, osl__law_whole, kV__law_whole, doc__law_whole, pm__law_whole, an__law_whole, cd__law_whole, ct__law_whole, l__law_whole, c__law_whole⟩ := He.fn_ok (d := dM__law_whole) (fntM c.2 (d := dM__law_whole) (j := 23) rfl) (fctM c.1 (f := faM227) (j := 227) rfl)
  have l1__law_whole : K.lookup (He.ga K "_law_whole") = some ⟨oc__law_whole, od__law_whole, .func (PySem.W.fnOf "_law_whole" "_law_whole" (defArgs s__law_whole) (defBody s__law_whole) (defScope s__law_whole) .none kV__law_whole doc__law_whole pm__law_whole an__law_whole cd__law_whole ct__law_whole), osl__law_whole⟩ := l__law_whole
  have F__law_whole := fun_mk (st := s__law_whole) l1__law_whole c__law_whole (fctM c.1 (f := faM226) (j := 226) rfl)
  obtain ⟨oc__law_low, od__law_low, osl__law_low, kV__law_low, doc__law_low, pm__law_low, an__law_low, cd__law_low, ct__law_low, l__law_low, c__law_low⟩ := He.fn_ok (d := dM__law_low) (fntM c.2 (d := dM__law_low) (j := 24) rfl) (fctM c.1 (f := faM230) (j := 230) rfl)
  have l1__law_low : K.lookup (He.ga K "_law_low") = some ⟨oc__law_low, od__law_low, .func (PySem.W.fnOf "_law_low" "_law_low" (defArgs s__law_low) (defBody s__law_low) (defScope s__law_low) .none kV__law_low doc__law_low pm__law_low an__law_low cd__law_low ct__law_low), osl__law_low⟩ := l__law_low
  have F__law_low := fun_mk (st := s__law_low) l1__law_low c__law_low (fctM c.1 (f := faM229) (j := 229) rfl)
  obtain ⟨oc__law_part, od__law_part, osl__law_part, kV__law_part, doc__law_part, pm__law_part, an__law_part, cd__law_part, ct__law_part, l__law_part, c__law_part⟩ := He.fn_ok (d := dM__law_part) (fntM c.2 (d := dM__law_part) (j := 25) rfl) (fctM c.1 (f := faM233) (j := 233) rfl)
  have l1__law_part : K.lookup (He.ga K "_law_part") = some ⟨oc__law_part, od__law_part, .func (PySem.W.fnOf "_law_part" "_law_part" (defArgs s__law_part) (defBody s__law_part) (defScope s__law_part) .none kV__law_part doc__law_part pm__law_part an__law_part cd__law_part ct__law_part), osl__law_part⟩ := l__law_part
  have F__law_part := fun_mk (st := s__law_part) l1__law_part c__law_part (fctM c.1 (f := faM232) (j := 232) rfl)
  obtain ⟨oc__law_size, od__law_size, osl__law_size, kV__law_size, doc__law_size, pm__law_size, an__law_size, cd__law_size, ct__law_size, l__law_size, c__law_size⟩ := He.fn_ok (d := dM__law_size) (fntM c.2 (d := dM__law_size) (j := 26) rfl) (fctM c.1 (f := faM236) (j := 236) rfl)
  have l1__law_size : K.lookup (He.ga K "_law_size") = some ⟨oc__law_size, od__law_size, .func (PySem.W.fnOf "_law_size" "_law_size" (defArgs s__law_size) (defBody s__law_size) (defScope s__law_size) .none kV__law_size doc__law_size pm__law_size an__law_size cd__law_size ct__law_size), osl__law_size⟩ := l__law_size
  have F__law_size := fun_mk (st := s__law_size) l1__law_size c__law_size (fctM c.1 (f := faM235) (j := 235) rfl)
  obtain ⟨oc__law_many, od__law_many, osl__law_many, kV__law_many, doc__law_many, pm__law_many, an__law_many, cd__law_many, ct__law_many, l__law_many, c__law_many⟩ := He.fn_ok (d := dM__law_many) (fntM c.2 (d := dM__law_many) (j := 27) rfl) (fctM c.1 (f := faM239) (j := 239) rfl)
  have l1__law_many : K.lookup (He.ga K "_law_many") = some ⟨oc__law_many, od__law_many, .func (PySem.W.fnOf "_law_many" "_law_many" (defArgs s__law_many) (defBody s__law_many) (defScope s__law_many) .none kV__law_many doc__law_many pm__law_many an__law_many cd__law_many ct__law_many), osl__law_many⟩ := l__law_many
  have F__law_many := fun_mk (st := s__law_many) l1__law_many c__law_many (fctM c.1 (f := faM238) (j := 238) rfl)
  obtain ⟨oc__law_pair, od__law_pair, osl__law_pair, kV__law_pair, doc__law_pair, pm__law_pair, an__law_pair, cd__law_pair, ct__law_pair, l__law_pair, c__law_pair⟩ := He.fn_ok (d := dM__law_pair) (fntM c.2 (d := dM__law_pair) (j := 28) rfl) (fctM c.1 (f := faM242) (j := 242) rfl)
  have l1__law_pair : K.lookup (He.ga K "_law_pair") = some ⟨oc__law_pair, od__law_pair, .func (PySem.W.fnOf "_law_pair" "_law_pair" (defArgs s__law_pair) (defBody s__law_pair) (defScope s__law_pair) .none kV__law_pair doc__law_pair pm__law_pair an__law_pair cd__law_pair ct__law_pair), osl__law_pair⟩ := l__law_pair
  have F__law_pair := fun_mk (st := s__law_pair) l1__law_pair c__law_pair (fctM c.1 (f := faM241) (j := 241) rfl)
  obtain ⟨oc__law_ears, od__law_ears, osl__law_ears, kV__law_ears, doc__law_ears, pm__law_ears, an__law_ears, cd__law_ears, ct__law_ears, l__law_ears, c__law_ears⟩ := He.fn_ok (d := dM__law_ears) (fntM c.2 (d := dM__law_ears) (j := 29) rfl) (fctM c.1 (f := faM245) (j := 245) rfl)
  have l1__law_ears : K.lookup (He.ga K "_law_ears") = some ⟨oc__law_ears, od__law_ears, .func (PySem.W.fnOf "_law_ears" "_law_ears" (defArgs s__law_ears) (defBody s__law_ears) (defScope s__law_ears) .none kV__law_ears doc__law_ears pm__law_ears an__law_ears cd__law_ears ct__law_ears), osl__law_ears⟩ := l__law_ears
  have F__law_ears := fun_mk (st := s__law_ears) l1__law_ears c__law_ears (fctM c.1 (f := faM244) (j := 244) rfl)
  obtain ⟨oc__law_ropes, od__law_ropes, osl__law_ropes, kV__law_ropes, doc__law_ropes, pm__law_ropes, an__law_ropes, cd__law_ropes, ct__law_ropes, l__law_ropes, c__law_ropes⟩ := He.fn_ok (d := dM__law_ropes) (fntM c.2 (d := dM__law_ropes) (j := 30) rfl) (fctM c.1 (f := faM248) (j := 248) rfl)
  have l1__law_ropes : K.lookup (He.ga K "_law_ropes") = some ⟨oc__law_ropes, od__law_ropes, .func (PySem.W.fnOf "_law_ropes" "_law_ropes" (defArgs s__law_ropes) (defBody s__law_ropes) (defScope s__law_ropes) .none kV__law_ropes doc__law_ropes pm__law_ropes an__law_ropes cd__law_ropes ct__law_ropes), osl__law_ropes⟩ := l__law_ropes
  have F__law_ropes := fun_mk (st := s__law_ropes) l1__law_ropes c__law_ropes (fctM c.1 (f := faM247) (j := 247) rfl)
  obtain ⟨oc__law_sides, od__law_sides, osl__law_sides, kV__law_sides, doc__law_sides, pm__law_sides, an__law_sides, cd__law_sides, ct__law_sides, l__law_sides, c__law_sides⟩ := He.fn_ok (d := dM__law_sides) (fntM c.2 (d := dM__law_sides) (j := 31) rfl) (fctM c.1 (f := faM251) (j := 251) rfl)
  have l1__law_sides : K.lookup (He.ga K "_law_sides") = some ⟨oc__law_sides, od__law_sides, .func (PySem.W.fnOf "_law_sides" "_law_sides" (defArgs s__law_sides) (defBody s__law_sides) (defScope s__law_sides) .none kV__law_sides doc__law_sides pm__law_sides an__law_sides cd__law_sides ct__law_sides), osl__law_sides⟩ := l__law_sides
  have F__law_sides := fun_mk (st := s__law_sides) l1__law_sides c__law_sides (fctM c.1 (f := faM250) (j := 250) rfl)
  obtain ⟨oc__law_ties, od__law_ties, osl__law_ties, kV__law_ties, doc__law_ties, pm__law_ties, an__law_ties, cd__law_ties, ct__law_ties, l__law_ties, c__law_ties⟩ := He.fn_ok (d := dM__law_ties) (fntM c.2 (d := dM__law_ties) (j := 32) rfl) (fctM c.1 (f := faM254) (j := 254) rfl)
  have l1__law_ties : K.lookup (He.ga K "_law_ties") = some ⟨oc__law_ties, od__law_ties, .func (PySem.W.fnOf "_law_ties" "_law_ties" (defArgs s__law_ties) (defBody s__law_ties) (defScope s__law_ties) .none kV__law_ties doc__law_ties pm__law_ties an__law_ties cd__law_ties ct__law_ties), osl__law_ties⟩ := l__law_ties
  have F__law_ties := fun_mk (st := s__law_ties) l1__law_ties c__law_ties (fctM c.1 (f := faM253) (j := 253) rfl)
  obtain ⟨oc__law_sized, od__law_sized, osl__law_sized, kV__law_sized, doc__law_sized, pm__law_sized, an__law_sized, cd__law_sized, ct__law_sized, l__law_sized, c__law_sized⟩ := He.fn_ok (d := dM__law_sized) (fntM c.2 (d := dM__law_sized) (j := 33) rfl) (fctM c.1 (f := faM257) (j := 257) rfl)
  have l1__law_sized : K.lookup (He.ga K "_law_sized") = some ⟨oc__law_sized, od__law_sized, .func (PySem.W.fnOf "_law_sized" "_law_sized" (defArgs s__law_sized) (defBody s__law_sized) (defScope s__law_sized) .none kV__law_sized doc__law_sized pm__law_sized an__law_sized cd__law_sized ct__law_sized), osl__law_sized⟩ := l__law_sized
  have F__law_sized := fun_mk (st := s__law_sized) l1__law_sized c__law_sized (fctM c.1 (f := faM256) (j := 256) rfl)
  obtain ⟨oc__law_tuple, od__law_tuple, osl__law_tuple, kV__law_tuple, doc__law_tuple, pm__law_tuple, an__law_tuple, cd__law_tuple, ct__law_tuple, l__law_tuple, c__law_tuple⟩ := He.fn_ok (d := dM__law_tuple) (fntM c.2 (d := dM__law_tuple) (j := 34) rfl) (fctM c.1 (f := faM260) (j := 260) rfl)
  have l1__law_tuple : K.lookup (He.ga K "_law_tuple") = some ⟨oc__law_tuple, od__law_tuple, .func (PySem.W.fnOf "_law_tuple" "_law_tuple" (defArgs s__law_tuple) (defBody s__law_tuple) (defScope s__law_tuple) .none kV__law_tuple doc__law_tuple pm__law_tuple an__law_tuple cd__law_tuple ct__law_tuple), osl__law_tuple⟩ := l__law_tuple
  have F__law_tuple := fun_mk (st := s__law_tuple) l1__law_tuple c__law_tuple (fctM c.1 (f := faM259) (j := 259) rfl)
  obtain ⟨oc__law_list, od__law_list, osl__law_list, kV__law_list, doc__law_list, pm__law_list, an__law_list, cd__law_list, ct__law_list, l__law_list, c__law_list⟩ := He.fn_ok (d := dM__law_list) (fntM c.2 (d := dM__law_list) (j := 35) rfl) (fctM c.1 (f := faM263) (j := 263) rfl)
  have l1__law_list : K.lookup (He.ga K "_law_list") = some ⟨oc__law_list, od__law_list, .func (PySem.W.fnOf "_law_list" "_law_list" (defArgs s__law_list) (defBody s__law_list) (defScope s__law_list) .none kV__law_list doc__law_list pm__law_list an__law_list cd__law_list ct__law_list), osl__law_list⟩ := l__law_list
  have F__law_list := fun_mk (st := s__law_list) l1__law_list c__law_list (fctM c.1 (f := faM262) (j := 262) rfl)
  obtain ⟨oc__law_dict, od__law_dict, osl__law_dict, kV__law_dict, doc__law_dict, pm__law_dict, an__law_dict, cd__law_dict, ct__law_dict, l__law_dict, c__law_dict⟩ := He.fn_ok (d := dM__law_dict) (fntM c.2 (d := dM__law_dict) (j := 36) rfl) (fctM c.1 (f := faM266) (j := 266) rfl)
  have l1__law_dict : K.lookup (He.ga K "_law_dict") = some ⟨oc__law_dict, od__law_dict, .func (PySem.W.fnOf "_law_dict" "_law_dict" (defArgs s__law_dict) (defBody s__law_dict) (defScope s__law_dict) .none kV__law_dict doc__law_dict pm__law_dict an__law_dict cd__law_dict ct__law_dict), osl__law_dict⟩ := l__law_dict
  have F__law_dict := fun_mk (st := s__law_dict) l1__law_dict c__law_dict (fctM c.1 (f := faM265) (j := 265) rfl)
  obtain ⟨oc__law_parts, od__law_parts, osl__law_parts, kV__law_parts, doc__law_parts, pm__law_parts, an__law_parts, cd__law_parts, ct__law_parts, l__law_parts, c__law_parts⟩ := He.fn_ok (d := dM__law_parts) (fntM c.2 (d := dM__law_parts) (j := 37) rfl) (fctM c.1 (f := faM269) (j := 269) rfl)
  have l1__law_parts : K.lookup (He.ga K "_law_parts") = some ⟨oc__law_parts, od__law_parts, .func (PySem.W.fnOf "_law_parts" "_law_parts" (defArgs s__law_parts) (defBody s__law_parts) (defScope s__law_parts) .none kV__law_parts doc__law_parts pm__law_parts an__law_parts cd__law_parts ct__law_parts), osl__law_parts⟩ := l__law_parts
  have F__law_parts := fun_mk (st := s__law_parts) l1__law_parts c__law_parts (fctM c.1 (f := faM268) (j := 268) rfl)
  obtain ⟨oc__law_shift, od__law_shift, osl__law_shift, kV__law_shift, doc__law_shift, pm__law_shift, an__law_shift, cd__law_shift, ct__law_shift, l__law_shift, c__law_shift⟩ := He.fn_ok (d := dM__law_shift) (fntM c.2 (d := dM__law_shift) (j := 38) rfl) (fctM c.1 (f := faM272) (j := 272) rfl)
  have l1__law_shift : K.lookup (He.ga K "_law_shift") = some ⟨oc__law_shift, od__law_shift, .func (PySem.W.fnOf "_law_shift" "_law_shift" (defArgs s__law_shift) (defBody s__law_shift) (defScope s__law_shift) .none kV__law_shift doc__law_shift pm__law_shift an__law_shift cd__law_shift ct__law_shift), osl__law_shift⟩ := l__law_shift
  have F__law_shift := fun_mk (st := s__law_shift) l1__law_shift c__law_shift (fctM c.1 (f := faM271) (j := 271) rfl)
  obtain ⟨oc__law_set, od__law_set, osl__law_set, kV__law_set, doc__law_set, pm__law_set, an__law_set, cd__law_set, ct__law_set, l__law_set, c__law_set⟩ := He.fn_ok (d := dM__law_set) (fntM c.2 (d := dM__law_set) (j := 39) rfl) (fctM c.1 (f := faM275) (j := 275) rfl)
  have l1__law_set : K.lookup (He.ga K "_law_set") = some ⟨oc__law_set, od__law_set, .func (PySem.W.fnOf "_law_set" "_law_set" (defArgs s__law_set) (defBody s__law_set) (defScope s__law_set) .none kV__law_set doc__law_set pm__law_set an__law_set cd__law_set ct__law_set), osl__law_set⟩ := l__law_set
  have F__law_set := fun_mk (st := s__law_set) l1__law_set c__law_set (fctM c.1 (f := faM274) (j := 274) rfl)
  obtain ⟨oc__law_draw, od__law_draw, osl__law_draw, kV__law_draw, doc__law_draw, pm__law_draw, an__law_draw, cd__law_draw, ct__law_draw, l__law_draw, c__law_draw⟩ := He.fn_ok (d := dM__law_draw) (fntM c.2 (d := dM__law_draw) (j := 40) rfl) (fctM c.1 (f := faM278) (j := 278) rfl)
  have l1__law_draw : K.lookup (He.ga K "_law_draw") = some ⟨oc__law_draw, od__law_draw, .func (PySem.W.fnOf "_law_draw" "_law_draw" (defArgs s__law_draw) (defBody s__law_draw) (defScope s__law_draw) .none kV__law_draw doc__law_draw pm__law_draw an__law_draw cd__law_draw ct__law_draw), osl__law_draw⟩ := l__law_draw
  have F__law_draw := fun_mk (st := s__law_draw) l1__law_draw c__law_draw (fctM c.1 (f := faM277) (j := 277) rfl)
  obtain ⟨oc__law_model, od__law_model, osl__law_model, kV__law_model, doc__law_model, pm__law_model, an__law_model, cd__law_model, ct__law_model, l__law_model, c__law_model⟩ := He.fn_ok (d := dM__law_model) (fntM c.2 (d := dM__law_model) (j := 41) rfl) (fctM c.1 (f := faM281) (j := 281) rfl)
  have l1__law_model : K.lookup (He.ga K "_law_model") = some ⟨oc__law_model, od__law_model, .func (PySem.W.fnOf "_law_model" "_law_model" (defArgs s__law_model) (defBody s__law_model) (defScope s__law_model) .none kV__law_model doc__law_model pm__law_model an__law_model cd__law_model ct__law_model), osl__law_model⟩ := l__law_model
  have F__law_model := fun_mk (st := s__law_model) l1__law_model c__law_model (fctM c.1 (f := faM280) (j := 280) rfl)
  obtain ⟨oc__law_done, od__law_done, osl__law_done, kV__law_done, doc__law_done, pm__law_done, an__law_done, cd__law_done, ct__law_done, l__law_done, c__law_done⟩ := He.fn_ok (d := dM__law_done) (fntM c.2 (d := dM__law_done) (j := 42) rfl) (fctM c.1 (f := faM284) (j := 284) rfl)
  have l1__law_done : K.lookup (He.ga K "_law_done") = some ⟨oc__law_done, od__law_done, .func (PySem.W.fnOf "_law_done" "_law_done" (defArgs s__law_done) (defBody s__law_done) (defScope s__law_done) .none kV__law_done doc__law_done pm__law_done an__law_done cd__law_done ct__law_done), osl__law_done⟩ := l__law_done
  have F__law_done := fun_mk (st := s__law_done) l1__law_done c__law_done (fctM c.1 (f := faM283) (j := 283) rfl)
  obtain ⟨oc__law_answer, od__law_answer, osl__law_answer, kV__law_answer, doc__law_answer, pm__law_answer, an__law_answer, cd__law_answer, ct__law_answer, l__law_answer, c__law_answer⟩ := He.fn_ok (d := dM__law_answer) (fntM c.2 (d := dM__law_answer) (j := 43) rfl) (fctM c.1 (f := faM287) (j := 287) rfl)
  have l1__law_answer : K.lookup (He.ga K "_law_answer") = some ⟨oc__law_answer, od__law_answer, .func (PySem.W.fnOf "_law_answer" "_law_answer" (defArgs s__law_answer) (defBody s__law_answer) (defScope s__law_answer) .none kV__law_answer doc__law_answer pm__law_answer an__law_answer cd__law_answer ct__law_answer), osl__law_answer⟩ := l__law_answer
  have F__law_answer := fun_mk (st := s__law_answer) l1__law_answer c__law_answer (fctM c.1 (f := faM286) (j := 286) rfl)
  obtain ⟨oc__law_is_at, od__law_is_at, osl__law_is_at, kV__law_is_at, doc__law_is_at, pm__law_is_at, an__law_is_at, cd__law_is_at, ct__law_is_at, l__law_is_at, c__law_is_at⟩ := He.fn_ok (d := dM__law_is_at) (fntM c.2 (d := dM__law_is_at) (j := 44) rfl) (fctM c.1 (f := faM290) (j := 290) rfl)
  have l1__law_is_at : K.lookup (He.ga K "_law_is_at") = some ⟨oc__law_is_at, od__law_is_at, .func (PySem.W.fnOf "_law_is_at" "_law_is_at" (defArgs s__law_is_at) (defBody s__law_is_at) (defScope s__law_is_at) .none kV__law_is_at doc__law_is_at pm__law_is_at an__law_is_at cd__law_is_at ct__law_is_at), osl__law_is_at⟩ := l__law_is_at
  have F__law_is_at := fun_mk (st := s__law_is_at) l1__law_is_at c__law_is_at (fctM c.1 (f := faM289) (j := 289) rfl)
  obtain ⟨oc__law_start, od__law_start, osl__law_start, kV__law_start, doc__law_start, pm__law_start, an__law_start, cd__law_start, ct__law_start, l__law_start, c__law_start⟩ := He.fn_ok (d := dM__law_start) (fntM c.2 (d := dM__law_start) (j := 45) rfl) (fctM c.1 (f := faM293) (j := 293) rfl)
  have l1__law_start : K.lookup (He.ga K "_law_start") = some ⟨oc__law_start, od__law_start, .func (PySem.W.fnOf "_law_start" "_law_start" (defArgs s__law_start) (defBody s__law_start) (defScope s__law_start) .none kV__law_start doc__law_start pm__law_start an__law_start cd__law_start ct__law_start), osl__law_start⟩ := l__law_start
  have F__law_start := fun_mk (st := s__law_start) l1__law_start c__law_start (fctM c.1 (f := faM292) (j := 292) rfl)
  obtain ⟨oc__law_wild, od__law_wild, osl__law_wild, kV__law_wild, doc__law_wild, pm__law_wild, an__law_wild, cd__law_wild, ct__law_wild, l__law_wild, c__law_wild⟩ := He.fn_ok (d := dM__law_wild) (fntM c.2 (d := dM__law_wild) (j := 46) rfl) (fctM c.1 (f := faM296) (j := 296) rfl)
  have l1__law_wild : K.lookup (He.ga K "_law_wild") = some ⟨oc__law_wild, od__law_wild, .func (PySem.W.fnOf "_law_wild" "_law_wild" (defArgs s__law_wild) (defBody s__law_wild) (defScope s__law_wild) .none kV__law_wild doc__law_wild pm__law_wild an__law_wild cd__law_wild ct__law_wild), osl__law_wild⟩ := l__law_wild
  have F__law_wild := fun_mk (st := s__law_wild) l1__law_wild c__law_wild (fctM c.1 (f := faM295) (j := 295) rfl)
  obtain ⟨oc__law_pick, od__law_pick, osl__law_pick, kV__law_pick, doc__law_pick, pm__law_pick, an__law_pick, cd__law_pick, ct__law_pick, l__law_pick, c__law_pick⟩ := He.fn_ok (d := dM__law_pick) (fntM c.2 (d := dM__law_pick) (j := 47) rfl) (fctM c.1 (f := faM299) (j := 299) rfl)
  have l1__law_pick : K.lookup (He.ga K "_law_pick") = some ⟨oc__law_pick, od__law_pick, .func (PySem.W.fnOf "_law_pick" "_law_pick" (defArgs s__law_pick) (defBody s__law_pick) (defScope s__law_pick) .none kV__law_pick doc__law_pick pm__law_pick an__law_pick cd__law_pick ct__law_pick), osl__law_pick⟩ := l__law_pick
  have F__law_pick := fun_mk (st := s__law_pick) l1__law_pick c__law_pick (fctM c.1 (f := faM298) (j := 298) rfl)
  obtain ⟨oc_law, od_law, osl_law, kV_law, doc_law, pm_law, an_law, cd_law, ct_law, l_law, c_law⟩ := He.fn_ok (d := dM_law) (fntM c.2 (d := dM_law) (j := 48) rfl) (fctM c.1 (f := faM302) (j := 302) rfl)
  have l1_law : K.lookup (He.ga K "law") = some ⟨oc_law, od_law, .func (PySem.W.fnOf "law" "law" (defArgs s_law) (defBody s_law) (defScope s_law) .none kV_law doc_law pm_law an_law cd_law ct_law), osl_law⟩ := l_law
  have F_law := fun_mk (st := s_law) l1_law c_law (fctM c.1 (f := faM301) (j := 301) rfl)
  obtain ⟨tk_LEAST_POSTS, mt_LEAST_POSTS⟩ := He.int_ok X G (x := "LEAST_POSTS") (i := 3) (fctM c.1 (f := faM319) (j := 319) rfl)
  obtain ⟨tk_MOST_POSTS, mt_MOST_POSTS⟩ := He.int_ok X G (x := "MOST_POSTS") (i := 12) (fctM c.1 (f := faM320) (j := 320) rfl)
  let T : Env K mg := { C_MeadError := (He.ga K "MeadError"), c_MeadError := (PySem.W.mg_of X G (He.eqO_ok (fctM c.1 (f := faM8) (j := 8) rfl))), x_MeadError := (fctM c.1 (f := faM9) (j := 9) rfl), k_MeadError := (fctM c.1 (f := faM10) (j := 10) rfl), bs_MeadError := (of_decide_eq_true (fctM c.1 (f := faM0) (j := 0) rfl)), ty_MeadError := (of_decide_eq_true (fctM c.1 (f := faM11) (j := 11) rfl)), e_MeadError := ⟨(He.eqO_ok (fctM c.1 (f := faM1) (j := 1) rfl)), (He.eqO_ok (fctM c.1 (f := faM2) (j := 2) rfl)), (of_decide_eq_true (fctM c.1 (f := faM0) (j := 0) rfl)), (fctM c.1 (f := faM3) (j := 3) rfl), (He.eqO_ok (fctM c.1 (f := faM4) (j := 4) rfl)), (He.eqO_ok (fctM c.1 (f := faM5) (j := 5) rfl)), (of_decide_eq_true (fctM c.1 (f := faM6) (j := 6) rfl)), (of_decide_eq_true (fctM c.1 (f := faM7) (j := 7) rfl))⟩, C_NoFraction := (He.ga K "NoFraction"), c_NoFraction := (PySem.W.mg_of X G (He.eqO_ok (fctM c.1 (f := faM20) (j := 20) rfl))), x_NoFraction := (fctM c.1 (f := faM21) (j := 21) rfl), k_NoFraction := (fctM c.1 (f := faM22) (j := 22) rfl), bs_NoFraction := (of_decide_eq_true (fctM c.1 (f := faM12) (j := 12) rfl)), ty_NoFraction := (of_decide_eq_true (fctM c.1 (f := faM23) (j := 23) rfl)), e_NoFraction := ⟨(He.eqO_ok (fctM c.1 (f := faM13) (j := 13) rfl)), (He.eqO_ok (fctM c.1 (f := faM14) (j := 14) rfl)), (of_decide_eq_true (fctM c.1 (f := faM12) (j := 12) rfl)), (fctM c.1 (f := faM15) (j := 15) rfl), (He.eqO_ok (fctM c.1 (f := faM16) (j := 16) rfl)), (He.eqO_ok (fctM c.1 (f := faM17) (j := 17) rfl)), (of_decide_eq_true (fctM c.1 (f := faM18) (j := 18) rfl)), (of_decide_eq_true (fctM c.1 (f := faM19) (j := 19) rfl))⟩, C_NoCutting := (He.ga K "NoCutting"), c_NoCutting := (PySem.W.mg_of X G (He.eqO_ok (fctM c.1 (f := faM32) (j := 32) rfl))), x_NoCutting := (fctM c.1 (f := faM33) (j := 33) rfl), k_NoCutting := (fctM c.1 (f := faM34) (j := 34) rfl), bs_NoCutting := (of_decide_eq_true (fctM c.1 (f := faM24) (j := 24) rfl)), ty_NoCutting := (of_decide_eq_true (fctM c.1 (f := faM35) (j := 35) rfl)), e_NoCutting := ⟨(He.eqO_ok (fctM c.1 (f := faM25) (j := 25) rfl)), (He.eqO_ok (fctM c.1 (f := faM26) (j := 26) rfl)), (of_decide_eq_true (fctM c.1 (f := faM24) (j := 24) rfl)), (fctM c.1 (f := faM27) (j := 27) rfl), (He.eqO_ok (fctM c.1 (f := faM28) (j := 28) rfl)), (He.eqO_ok (fctM c.1 (f := faM29) (j := 29) rfl)), (of_decide_eq_true (fctM c.1 (f := faM30) (j := 30) rfl)), (of_decide_eq_true (fctM c.1 (f := faM31) (j := 31) rfl))⟩, C_NoPost := (He.ga K "NoPost"), c_NoPost := (PySem.W.mg_of X G (He.eqO_ok (fctM c.1 (f := faM44) (j := 44) rfl))), x_NoPost := (fctM c.1 (f := faM45) (j := 45) rfl), k_NoPost := (fctM c.1 (f := faM46) (j := 46) rfl), bs_NoPost := (of_decide_eq_true (fctM c.1 (f := faM36) (j := 36) rfl)), ty_NoPost := (of_decide_eq_true (fctM c.1 (f := faM47) (j := 47) rfl)), e_NoPost := ⟨(He.eqO_ok (fctM c.1 (f := faM37) (j := 37) rfl)), (He.eqO_ok (fctM c.1 (f := faM38) (j := 38) rfl)), (of_decide_eq_true (fctM c.1 (f := faM36) (j := 36) rfl)), (fctM c.1 (f := faM39) (j := 39) rfl), (He.eqO_ok (fctM c.1 (f := faM40) (j := 40) rfl)), (He.eqO_ok (fctM c.1 (f := faM41) (j := 41) rfl)), (of_decide_eq_true (fctM c.1 (f := faM42) (j := 42) rfl)), (of_decide_eq_true (fctM c.1 (f := faM43) (j := 43) rfl))⟩, C_NoRope := (He.ga K "NoRope"), c_NoRope := (PySem.W.mg_of X G (He.eqO_ok (fctM c.1 (f := faM56) (j := 56) rfl))), x_NoRope := (fctM c.1 (f := faM57) (j := 57) rfl), k_NoRope := (fctM c.1 (f := faM58) (j := 58) rfl), bs_NoRope := (of_decide_eq_true (fctM c.1 (f := faM48) (j := 48) rfl)), ty_NoRope := (of_decide_eq_true (fctM c.1 (f := faM59) (j := 59) rfl)), e_NoRope := ⟨(He.eqO_ok (fctM c.1 (f := faM49) (j := 49) rfl)), (He.eqO_ok (fctM c.1 (f := faM50) (j := 50) rfl)), (of_decide_eq_true (fctM c.1 (f := faM48) (j := 48) rfl)), (fctM c.1 (f := faM51) (j := 51) rfl), (He.eqO_ok (fctM c.1 (f := faM52) (j := 52) rfl)), (He.eqO_ok (fctM c.1 (f := faM53) (j := 53) rfl)), (of_decide_eq_true (fctM c.1 (f := faM54) (j := 54) rfl)), (of_decide_eq_true (fctM c.1 (f := faM55) (j := 55) rfl))⟩, C_BadLength := (He.ga K "BadLength"), c_BadLength := (PySem.W.mg_of X G (He.eqO_ok (fctM c.1 (f := faM68) (j := 68) rfl))), x_BadLength := (fctM c.1 (f := faM69) (j := 69) rfl), k_BadLength := (fctM c.1 (f := faM70) (j := 70) rfl), bs_BadLength := (of_decide_eq_true (fctM c.1 (f := faM60) (j := 60) rfl)), ty_BadLength := (of_decide_eq_true (fctM c.1 (f := faM71) (j := 71) rfl)), e_BadLength := ⟨(He.eqO_ok (fctM c.1 (f := faM61) (j := 61) rfl)), (He.eqO_ok (fctM c.1 (f := faM62) (j := 62) rfl)), (of_decide_eq_true (fctM c.1 (f := faM60) (j := 60) rfl)), (fctM c.1 (f := faM63) (j := 63) rfl), (He.eqO_ok (fctM c.1 (f := faM64) (j := 64) rfl)), (He.eqO_ok (fctM c.1 (f := faM65) (j := 65) rfl)), (of_decide_eq_true (fctM c.1 (f := faM66) (j := 66) rfl)), (of_decide_eq_true (fctM c.1 (f := faM67) (j := 67) rfl))⟩, C_Full := (He.ga K "Full"), c_Full := (PySem.W.mg_of X G (He.eqO_ok (fctM c.1 (f := faM80) (j := 80) rfl))), x_Full := (fctM c.1 (f := faM81) (j := 81) rfl), k_Full := (fctM c.1 (f := faM82) (j := 82) rfl), bs_Full := (of_decide_eq_true (fctM c.1 (f := faM72) (j := 72) rfl)), ty_Full := (of_decide_eq_true (fctM c.1 (f := faM83) (j := 83) rfl)), e_Full := ⟨(He.eqO_ok (fctM c.1 (f := faM73) (j := 73) rfl)), (He.eqO_ok (fctM c.1 (f := faM74) (j := 74) rfl)), (of_decide_eq_true (fctM c.1 (f := faM72) (j := 72) rfl)), (fctM c.1 (f := faM75) (j := 75) rfl), (He.eqO_ok (fctM c.1 (f := faM76) (j := 76) rfl)), (He.eqO_ok (fctM c.1 (f := faM77) (j := 77) rfl)), (of_decide_eq_true (fctM c.1 (f := faM78) (j := 78) rfl)), (of_decide_eq_true (fctM c.1 (f := faM79) (j := 79) rfl))⟩, C_Few := (He.ga K "Few"), c_Few := (PySem.W.mg_of X G (He.eqO_ok (fctM c.1 (f := faM92) (j := 92) rfl))), x_Few := (fctM c.1 (f := faM93) (j := 93) rfl), k_Few := (fctM c.1 (f := faM94) (j := 94) rfl), bs_Few := (of_decide_eq_true (fctM c.1 (f := faM84) (j := 84) rfl)), ty_Few := (of_decide_eq_true (fctM c.1 (f := faM95) (j := 95) rfl)), e_Few := ⟨(He.eqO_ok (fctM c.1 (f := faM85) (j := 85) rfl)), (He.eqO_ok (fctM c.1 (f := faM86) (j := 86) rfl)), (of_decide_eq_true (fctM c.1 (f := faM84) (j := 84) rfl)), (fctM c.1 (f := faM87) (j := 87) rfl), (He.eqO_ok (fctM c.1 (f := faM88) (j := 88) rfl)), (He.eqO_ok (fctM c.1 (f := faM89) (j := 89) rfl)), (of_decide_eq_true (fctM c.1 (f := faM90) (j := 90) rfl)), (of_decide_eq_true (fctM c.1 (f := faM91) (j := 91) rfl))⟩, C_HasRopes := (He.ga K "HasRopes"), c_HasRopes := (PySem.W.mg_of X G (He.eqO_ok (fctM c.1 (f := faM104) (j := 104) rfl))), x_HasRopes := (fctM c.1 (f := faM105) (j := 105) rfl), k_HasRopes := (fctM c.1 (f := faM106) (j := 106) rfl), bs_HasRopes := (of_decide_eq_true (fctM c.1 (f := faM96) (j := 96) rfl)), ty_HasRopes := (of_decide_eq_true (fctM c.1 (f := faM107) (j := 107) rfl)), e_HasRopes := ⟨(He.eqO_ok (fctM c.1 (f := faM97) (j := 97) rfl)), (He.eqO_ok (fctM c.1 (f := faM98) (j := 98) rfl)), (of_decide_eq_true (fctM c.1 (f := faM96) (j := 96) rfl)), (fctM c.1 (f := faM99) (j := 99) rfl), (He.eqO_ok (fctM c.1 (f := faM100) (j := 100) rfl)), (He.eqO_ok (fctM c.1 (f := faM101) (j := 101) rfl)), (of_decide_eq_true (fctM c.1 (f := faM102) (j := 102) rfl)), (of_decide_eq_true (fctM c.1 (f := faM103) (j := 103) rfl))⟩, C_NoBack := (He.ga K "NoBack"), c_NoBack := (PySem.W.mg_of X G (He.eqO_ok (fctM c.1 (f := faM116) (j := 116) rfl))), x_NoBack := (fctM c.1 (f := faM117) (j := 117) rfl), k_NoBack := (fctM c.1 (f := faM118) (j := 118) rfl), bs_NoBack := (of_decide_eq_true (fctM c.1 (f := faM108) (j := 108) rfl)), ty_NoBack := (of_decide_eq_true (fctM c.1 (f := faM119) (j := 119) rfl)), e_NoBack := ⟨(He.eqO_ok (fctM c.1 (f := faM109) (j := 109) rfl)), (He.eqO_ok (fctM c.1 (f := faM110) (j := 110) rfl)), (of_decide_eq_true (fctM c.1 (f := faM108) (j := 108) rfl)), (fctM c.1 (f := faM111) (j := 111) rfl), (He.eqO_ok (fctM c.1 (f := faM112) (j := 112) rfl)), (He.eqO_ok (fctM c.1 (f := faM113) (j := 113) rfl)), (of_decide_eq_true (fctM c.1 (f := faM114) (j := 114) rfl)), (of_decide_eq_true (fctM c.1 (f := faM115) (j := 115) rfl))⟩, sub_NoPost_NoPost := (of_decide_eq_true (fctM c.1 (f := faM120) (j := 120) rfl)), sub_NoFraction_NoFraction := (of_decide_eq_true (fctM c.1 (f := faM121) (j := 121) rfl)), sub_Full_Full := (of_decide_eq_true (fctM c.1 (f := faM122) (j := 122) rfl)), sub_Few_Few := (of_decide_eq_true (fctM c.1 (f := faM123) (j := 123) rfl)), sub_HasRopes_HasRopes := (of_decide_eq_true (fctM c.1 (f := faM124) (j := 124) rfl)), nosub_NoFraction_NoPost := (of_decide_eq_true (fctM c.1 (f := faM125) (j := 125) rfl)), nosub_NoFraction_NoRope := (of_decide_eq_true (fctM c.1 (f := faM126) (j := 126) rfl)), nosub_Full_NoPost := (of_decide_eq_true (fctM c.1 (f := faM127) (j := 127) rfl)), nosub_Full_NoRope := (of_decide_eq_true (fctM c.1 (f := faM128) (j := 128) rfl)), nosub_Full_NoFraction := (of_decide_eq_true (fctM c.1 (f := faM129) (j := 129) rfl)), nosub_Few_NoPost := (of_decide_eq_true (fctM c.1 (f := faM130) (j := 130) rfl)), nosub_Few_NoRope := (of_decide_eq_true (fctM c.1 (f := faM131) (j := 131) rfl)), nosub_Few_NoFraction := (of_decide_eq_true (fctM c.1 (f := faM132) (j := 132) rfl)), nosub_Few_Full := (of_decide_eq_true (fctM c.1 (f := faM133) (j := 133) rfl)), nosub_HasRopes_NoPost := (of_decide_eq_true (fctM c.1 (f := faM134) (j := 134) rfl)), nosub_HasRopes_NoRope := (of_decide_eq_true (fctM c.1 (f := faM135) (j := 135) rfl)), nosub_HasRopes_NoFraction := (of_decide_eq_true (fctM c.1 (f := faM136) (j := 136) rfl)), nosub_HasRopes_Full := (of_decide_eq_true (fctM c.1 (f := faM137) (j := 137) rfl)), nosub_HasRopes_Few := (of_decide_eq_true (fctM c.1 (f := faM138) (j := 138) rfl)), C_Mead := (He.ga K "Mead"), c_Mead := (PySem.W.mg_of X G (He.eqO_ok (fctM c.1 (f := faM139) (j := 139) rfl))), cl_Mead := ⟨(fctM c.1 (f := faM140) (j := 140) rfl), (fctM c.1 (f := faM141) (j := 141) rfl), (fctM c.1 (f := faM142) (j := 142) rfl), (He.eqO_ok (fctM c.1 (f := faM143) (j := 143) rfl))⟩, na_Mead__state := (He.eqO_ok (fctM c.1 (f := faM144) (j := 144) rfl)), na_Mead__standing := (He.eqO_ok (fctM c.1 (f := faM145) (j := 145) rfl)), na_Mead__undone := (He.eqO_ok (fctM c.1 (f := faM146) (j := 146) rfl)), a_pair_of := (He.ga K "pair_of"), fd_pair_of := _, F_pair_of := F_pair_of, g_pair_of := (PySem.W.mg_of X G (He.eqO_ok (fctM c.1 (f := faM149) (j := 149) rfl))), b_pair_of := F_pair_of.binds (ps := ["a", "b"]) fun _ _ _ _ _ _ us hl => match us, hl with | [_, _], _ => rfl, a_need_post := (He.ga K "need_post"), fd_need_post := _, F_need_post := F_need_post, g_need_post := (PySem.W.mg_of X G (He.eqO_ok (fctM c.1 (f := faM152) (j := 152) rfl))), b_need_post := F_need_post.binds (ps := ["n", "post"]) fun _ _ _ _ _ _ us hl => match us, hl with | [_, _], _ => rfl, a_crosses := (He.ga K "crosses"), fd_crosses := _, F_crosses := F_crosses, g_crosses := (PySem.W.mg_of X G (He.eqO_ok (fctM c.1 (f := faM155) (j := 155) rfl))), b_crosses := F_crosses.binds (ps := ["one", "other"]) fun _ _ _ _ _ _ us hl => match us, hl with | [_, _], _ => rfl, a_kept := (He.ga K "kept"), fd_kept := _, F_kept := F_kept, g_kept := (PySem.W.mg_of X G (He.eqO_ok (fctM c.1 (f := faM158) (j := 158) rfl))), b_kept := F_kept.binds (ps := ["n", "ropes"]) fun _ _ _ _ _ _ us hl => match us, hl with | [_, _], _ => rfl, a_is_cutting := (He.ga K "is_cutting"), fd_is_cutting := _, F_is_cutting := F_is_cutting, g_is_cutting := (PySem.W.mg_of X G (He.eqO_ok (fctM c.1 (f := faM161) (j := 161) rfl))), b_is_cutting := F_is_cutting.binds (ps := ["n", "pairs"]) fun _ _ _ _ _ _ us hl => match us, hl with | [_, _], _ => rfl, a_is_rope := (He.ga K "is_rope"), fd_is_rope := _, F_is_rope := F_is_rope, g_is_rope := (PySem.W.mg_of X G (He.eqO_ok (fctM c.1 (f := faM164) (j := 164) rfl))), b_is_rope := F_is_rope.binds (ps := ["n", "a", "b"]) fun _ _ _ _ _ _ us hl => match us, hl with | [_, _, _], _ => rfl, a_sides := (He.ga K "sides"), fd_sides := _, F_sides := F_sides, g_sides := (PySem.W.mg_of X G (He.eqO_ok (fctM c.1 (f := faM167) (j := 167) rfl))), b_sides := F_sides.binds (ps := ["n"]) fun _ _ _ _ _ _ us hl => match us, hl with | [_], _ => rfl, a_ties := (He.ga K "ties"), fd_ties := _, F_ties := F_ties, g_ties := (PySem.W.mg_of X G (He.eqO_ok (fctM c.1 (f := faM170) (j := 170) rfl))), b_ties := F_ties.binds (ps := ["n", "cut"]) fun _ _ _ _ _ _ us hl => match us, hl with | [_, _], _ => rfl, a_ropes_among := (He.ga K "ropes_among"), fd_ropes_among := _, F_ropes_among := F_ropes_among, g_ropes_among := (PySem.W.mg_of X G (He.eqO_ok (fctM c.1 (f := faM173) (j := 173) rfl))), b_ropes_among := F_ropes_among.binds (ps := ["n", "pairs"]) fun _ _ _ _ _ _ us hl => match us, hl with | [_, _], _ => rfl, a_lowest := (He.ga K "lowest"), fd_lowest := _, F_lowest := F_lowest, g_lowest := (PySem.W.mg_of X G (He.eqO_ok (fctM c.1 (f := faM176) (j := 176) rfl))), b_lowest := F_lowest.binds (ps := ["top", "bottom"]) fun _ _ _ _ _ _ us hl => match us, hl with | [_, _], _ => rfl, a_is_part := (He.ga K "is_part"), fd_is_part := _, F_is_part := F_is_part, g_is_part := (PySem.W.mg_of X G (He.eqO_ok (fctM c.1 (f := faM179) (j := 179) rfl))), b_is_part := F_is_part.binds (ps := ["one"]) fun _ _ _ _ _ _ us hl => match us, hl with | [_], _ => rfl, a_is_length := (He.ga K "is_length"), fd_is_length := _, F_is_length := F_is_length, g_is_length := (PySem.W.mg_of X G (He.eqO_ok (fctM c.1 (f := faM182) (j := 182) rfl))), b_is_length := F_is_length.binds (ps := ["one"]) fun _ _ _ _ _ _ us hl => match us, hl with | [_], _ => rfl, a_Mead___init__ := (He.ma K (He.ga K "Mead") "__init__"), fd_Mead___init__ := _, F_Mead___init__ := F_Mead___init__, b_Mead___init__ := F_Mead___init__.binds (ps := ["self", "n", "ropes", "lengths"]) fun _ _ _ _ _ _ us hl => match us, hl with | [_, _, _, _], _ => rfl, mk_Mead := ⟨(fctM c.1 (f := faM187) (j := 187) rfl), (He.eqO_ok (fctM c.1 (f := faM183) (j := 183) rfl)), (fctM c.1 (f := faM184) (j := 184) rfl), (fctM c.1 (f := faM188) (j := 188) rfl)⟩, a_Mead_posts := (He.ma K (He.ga K "Mead") "posts"), fd_Mead_posts := _, F_Mead_posts := F_Mead_posts, b_Mead_posts := F_Mead_posts.binds (ps := ["self"]) fun _ _ _ _ _ _ us hl => match us, hl with | [_], _ => rfl, me_Mead_posts := ⟨(He.eqO_ok (fctM c.1 (f := faM189) (j := 189) rfl)), (fctM c.1 (f := faM190) (j := 190) rfl), (fctM c.1 (f := faM191) (j := 191) rfl)⟩, a_Mead_ropes := (He.ma K (He.ga K "Mead") "ropes"), fd_Mead_ropes := _, F_Mead_ropes := F_Mead_ropes, b_Mead_ropes := F_Mead_ropes.binds (ps := ["self"]) fun _ _ _ _ _ _ us hl => match us, hl with | [_], _ => rfl, me_Mead_ropes := ⟨(He.eqO_ok (fctM c.1 (f := faM193) (j := 193) rfl)), (fctM c.1 (f := faM194) (j := 194) rfl), (fctM c.1 (f := faM195) (j := 195) rfl)⟩, a_Mead_lengths := (He.ma K (He.ga K "Mead") "lengths"), fd_Mead_lengths := _, F_Mead_lengths := F_Mead_lengths, b_Mead_lengths := F_Mead_lengths.binds (ps := ["self"]) fun _ _ _ _ _ _ us hl => match us, hl with | [_], _ => rfl, me_Mead_lengths := ⟨(He.eqO_ok (fctM c.1 (f := faM197) (j := 197) rfl)), (fctM c.1 (f := faM198) (j := 198) rfl), (fctM c.1 (f := faM199) (j := 199) rfl)⟩, a_Mead_deeds := (He.ma K (He.ga K "Mead") "deeds"), fd_Mead_deeds := _, F_Mead_deeds := F_Mead_deeds, b_Mead_deeds := F_Mead_deeds.binds (ps := ["self"]) fun _ _ _ _ _ _ us hl => match us, hl with | [_], _ => rfl, me_Mead_deeds := ⟨(He.eqO_ok (fctM c.1 (f := faM201) (j := 201) rfl)), (fctM c.1 (f := faM202) (j := 202) rfl), (fctM c.1 (f := faM203) (j := 203) rfl)⟩, a_Mead_set_out := (He.ma K (He.ga K "Mead") "set_out"), fd_Mead_set_out := _, F_Mead_set_out := F_Mead_set_out, b_Mead_set_out := F_Mead_set_out.binds (ps := ["self", "k", "one", "other"]) fun _ _ _ _ _ _ us hl => match us, hl with | [_, _, _, _], _ => rfl, me_Mead_set_out := ⟨(He.eqO_ok (fctM c.1 (f := faM205) (j := 205) rfl)), (fctM c.1 (f := faM206) (j := 206) rfl), (fctM c.1 (f := faM207) (j := 207) rfl)⟩, a_Mead_draw := (He.ma K (He.ga K "Mead") "draw"), fd_Mead_draw := _, F_Mead_draw := F_Mead_draw, b_Mead_draw := F_Mead_draw.binds (ps := ["self", "post"]) fun _ _ _ _ _ _ us hl => match us, hl with | [_, _], _ => rfl, me_Mead_draw := ⟨(He.eqO_ok (fctM c.1 (f := faM209) (j := 209) rfl)), (fctM c.1 (f := faM210) (j := 210) rfl), (fctM c.1 (f := faM211) (j := 211) rfl)⟩, a_Mead__do := (He.ma K (He.ga K "Mead") "_do"), fd_Mead__do := _, F_Mead__do := F_Mead__do, b_Mead__do := F_Mead__do.binds (ps := ["self", "deed", "n", "cut", "lengths"]) fun _ _ _ _ _ _ us hl => match us, hl with | [_, _, _, _, _], _ => rfl, me_Mead__do := ⟨(He.eqO_ok (fctM c.1 (f := faM213) (j := 213) rfl)), (fctM c.1 (f := faM214) (j := 214) rfl), (fctM c.1 (f := faM215) (j := 215) rfl)⟩, a_checked := (He.ga K "checked"), fd_checked := _, F_checked := F_checked, g_checked := (PySem.W.mg_of X G (He.eqO_ok (fctM c.1 (f := faM219) (j := 219) rfl))), b_checked := F_checked.binds (ps := ["n", "cut", "lengths"]) fun _ _ _ _ _ _ us hl => match us, hl with | [_, _, _], _ => rfl, a_shifted := (He.ga K "shifted"), fd_shifted := _, F_shifted := F_shifted, g_shifted := (PySem.W.mg_of X G (He.eqO_ok (fctM c.1 (f := faM222) (j := 222) rfl))), b_shifted := F_shifted.binds (ps := ["lengths", "post", "by"]) fun _ _ _ _ _ _ us hl => match us, hl with | [_, _, _], _ => rfl, a__law_flow := (He.ga K "_law_flow"), fd__law_flow := _, F__law_flow := F__law_flow, g__law_flow := (PySem.W.mg_of X G (He.eqO_ok (fctM c.1 (f := faM225) (j := 225) rfl))), b__law_flow := F__law_flow.binds (ps := ["_law_script", "_law_many_here"]) fun _ _ _ _ _ _ us hl => match us, hl with | [_, _], _ => rfl, a__law_whole := (He.ga K "_law_whole"), fd__law_whole := _, F__law_whole := F__law_whole, g__law_whole := (PySem.W.mg_of X G (He.eqO_ok (fctM c.1 (f := faM228) (j := 228) rfl))), b__law_whole := F__law_whole.binds (ps := ["_law_found"]) fun _ _ _ _ _ _ us hl => match us, hl with | [_], _ => rfl, a__law_low := (He.ga K "_law_low"), fd__law_low := _, F__law_low := F__law_low, g__law_low := (PySem.W.mg_of X G (He.eqO_ok (fctM c.1 (f := faM231) (j := 231) rfl))), b__law_low := F__law_low.binds (ps := ["_law_top", "_law_bottom"]) fun _ _ _ _ _ _ us hl => match us, hl with | [_, _], _ => rfl, a__law_part := (He.ga K "_law_part"), fd__law_part := _, F__law_part := F__law_part, g__law_part := (PySem.W.mg_of X G (He.eqO_ok (fctM c.1 (f := faM234) (j := 234) rfl))), b__law_part := F__law_part.binds (ps := ["_law_found"]) fun _ _ _ _ _ _ us hl => match us, hl with | [_], _ => rfl, a__law_size := (He.ga K "_law_size"), fd__law_size := _, F__law_size := F__law_size, g__law_size := (PySem.W.mg_of X G (He.eqO_ok (fctM c.1 (f := faM237) (j := 237) rfl))), b__law_size := F__law_size.binds (ps := ["_law_one"]) fun _ _ _ _ _ _ us hl => match us, hl with | [_], _ => rfl, a__law_many := (He.ga K "_law_many"), fd__law_many := _, F__law_many := F__law_many, g__law_many := (PySem.W.mg_of X G (He.eqO_ok (fctM c.1 (f := faM240) (j := 240) rfl))), b__law_many := F__law_many.binds (ps := ["_law_row"]) fun _ _ _ _ _ _ us hl => match us, hl with | [_], _ => rfl, a__law_pair := (He.ga K "_law_pair"), fd__law_pair := _, F__law_pair := F__law_pair, g__law_pair := (PySem.W.mg_of X G (He.eqO_ok (fctM c.1 (f := faM243) (j := 243) rfl))), b__law_pair := F__law_pair.binds (ps := ["_law_a", "_law_b"]) fun _ _ _ _ _ _ us hl => match us, hl with | [_, _], _ => rfl, a__law_ears := (He.ga K "_law_ears"), fd__law_ears := _, F__law_ears := F__law_ears, g__law_ears := (PySem.W.mg_of X G (He.eqO_ok (fctM c.1 (f := faM246) (j := 246) rfl))), b__law_ears := F__law_ears.binds (ps := ["_law_n", "_law_row"]) fun _ _ _ _ _ _ us hl => match us, hl with | [_, _], _ => rfl, a__law_ropes := (He.ga K "_law_ropes"), fd__law_ropes := _, F__law_ropes := F__law_ropes, g__law_ropes := (PySem.W.mg_of X G (He.eqO_ok (fctM c.1 (f := faM249) (j := 249) rfl))), b__law_ropes := F__law_ropes.binds (ps := ["_law_ears_here"]) fun _ _ _ _ _ _ us hl => match us, hl with | [_], _ => rfl, a__law_sides := (He.ga K "_law_sides"), fd__law_sides := _, F__law_sides := F__law_sides, g__law_sides := (PySem.W.mg_of X G (He.eqO_ok (fctM c.1 (f := faM252) (j := 252) rfl))), b__law_sides := F__law_sides.binds (ps := ["_law_n"]) fun _ _ _ _ _ _ us hl => match us, hl with | [_], _ => rfl, a__law_ties := (He.ga K "_law_ties"), fd__law_ties := _, F__law_ties := F__law_ties, g__law_ties := (PySem.W.mg_of X G (He.eqO_ok (fctM c.1 (f := faM255) (j := 255) rfl))), b__law_ties := F__law_ties.binds (ps := ["_law_n", "_law_cut"]) fun _ _ _ _ _ _ us hl => match us, hl with | [_, _], _ => rfl, a__law_sized := (He.ga K "_law_sized"), fd__law_sized := _, F__law_sized := F__law_sized, g__law_sized := (PySem.W.mg_of X G (He.eqO_ok (fctM c.1 (f := faM258) (j := 258) rfl))), b__law_sized := F__law_sized.binds (ps := ["_law_all_ties", "_law_row"]) fun _ _ _ _ _ _ us hl => match us, hl with | [_, _], _ => rfl, a__law_tuple := (He.ga K "_law_tuple"), fd__law_tuple := _, F__law_tuple := F__law_tuple, g__law_tuple := (PySem.W.mg_of X G (He.eqO_ok (fctM c.1 (f := faM261) (j := 261) rfl))), b__law_tuple := F__law_tuple.binds (ps := ["_law_found", "_law_many_here"]) fun _ _ _ _ _ _ us hl => match us, hl with | [_, _], _ => rfl, a__law_list := (He.ga K "_law_list"), fd__law_list := _, F__law_list := F__law_list, g__law_list := (PySem.W.mg_of X G (He.eqO_ok (fctM c.1 (f := faM264) (j := 264) rfl))), b__law_list := F__law_list.binds (ps := ["_law_found", "_law_many_here"]) fun _ _ _ _ _ _ us hl => match us, hl with | [_, _], _ => rfl, a__law_dict := (He.ga K "_law_dict"), fd__law_dict := _, F__law_dict := F__law_dict, g__law_dict := (PySem.W.mg_of X G (He.eqO_ok (fctM c.1 (f := faM267) (j := 267) rfl))), b__law_dict := F__law_dict.binds (ps := ["_law_found", "_law_due"]) fun _ _ _ _ _ _ us hl => match us, hl with | [_, _], _ => rfl, a__law_parts := (He.ga K "_law_parts"), fd__law_parts := _, F__law_parts := F__law_parts, g__law_parts := (PySem.W.mg_of X G (He.eqO_ok (fctM c.1 (f := faM270) (j := 270) rfl))), b__law_parts := F__law_parts.binds (ps := ["_law_found", "_law_due"]) fun _ _ _ _ _ _ us hl => match us, hl with | [_, _], _ => rfl, a__law_shift := (He.ga K "_law_shift"), fd__law_shift := _, F__law_shift := F__law_shift, g__law_shift := (PySem.W.mg_of X G (He.eqO_ok (fctM c.1 (f := faM273) (j := 273) rfl))), b__law_shift := F__law_shift.binds (ps := ["_law_state", "_law_post", "_law_step"]) fun _ _ _ _ _ _ us hl => match us, hl with | [_, _, _], _ => rfl, a__law_set := (He.ga K "_law_set"), fd__law_set := _, F__law_set := F__law_set, g__law_set := (PySem.W.mg_of X G (He.eqO_ok (fctM c.1 (f := faM276) (j := 276) rfl))), b__law_set := F__law_set.binds (ps := ["_law_state", "_law_k", "_law_one", "_law_other"]) fun _ _ _ _ _ _ us hl => match us, hl with | [_, _, _, _], _ => rfl, a__law_draw := (He.ga K "_law_draw"), fd__law_draw := _, F__law_draw := F__law_draw, g__law_draw := (PySem.W.mg_of X G (He.eqO_ok (fctM c.1 (f := faM279) (j := 279) rfl))), b__law_draw := F__law_draw.binds (ps := ["_law_state", "_law_post"]) fun _ _ _ _ _ _ us hl => match us, hl with | [_, _], _ => rfl, a__law_model := (He.ga K "_law_model"), fd__law_model := _, F__law_model := F__law_model, g__law_model := (PySem.W.mg_of X G (He.eqO_ok (fctM c.1 (f := faM282) (j := 282) rfl))), b__law_model := F__law_model.binds (ps := ["_law_state", "_law_deed"]) fun _ _ _ _ _ _ us hl => match us, hl with | [_, _], _ => rfl, a__law_done := (He.ga K "_law_done"), fd__law_done := _, F__law_done := F__law_done, g__law_done := (PySem.W.mg_of X G (He.eqO_ok (fctM c.1 (f := faM285) (j := 285) rfl))), b__law_done := F__law_done.binds (ps := ["_law_mead", "_law_deed"]) fun _ _ _ _ _ _ us hl => match us, hl with | [_, _], _ => rfl, a__law_answer := (He.ga K "_law_answer"), fd__law_answer := _, F__law_answer := F__law_answer, g__law_answer := (PySem.W.mg_of X G (He.eqO_ok (fctM c.1 (f := faM288) (j := 288) rfl))), b__law_answer := F__law_answer.binds (ps := ["_law_found", "_law_due", "_law_deed"]) fun _ _ _ _ _ _ us hl => match us, hl with | [_, _, _], _ => rfl, a__law_is_at := (He.ga K "_law_is_at"), fd__law_is_at := _, F__law_is_at := F__law_is_at, g__law_is_at := (PySem.W.mg_of X G (He.eqO_ok (fctM c.1 (f := faM291) (j := 291) rfl))), b__law_is_at := F__law_is_at.binds (ps := ["_law_mead", "_law_state"]) fun _ _ _ _ _ _ us hl => match us, hl with | [_, _], _ => rfl, a__law_start := (He.ga K "_law_start"), fd__law_start := _, F__law_start := F__law_start, g__law_start := (PySem.W.mg_of X G (He.eqO_ok (fctM c.1 (f := faM294) (j := 294) rfl))), b__law_start := F__law_start.binds (ps := ["_law_row"]) fun _ _ _ _ _ _ us hl => match us, hl with | [_], _ => rfl, a__law_wild := (He.ga K "_law_wild"), fd__law_wild := _, F__law_wild := F__law_wild, g__law_wild := (PySem.W.mg_of X G (He.eqO_ok (fctM c.1 (f := faM297) (j := 297) rfl))), b__law_wild := F__law_wild.binds (ps := ["_law_n", "_law_one"]) fun _ _ _ _ _ _ us hl => match us, hl with | [_, _], _ => rfl, a__law_pick := (He.ga K "_law_pick"), fd__law_pick := _, F__law_pick := F__law_pick, g__law_pick := (PySem.W.mg_of X G (He.eqO_ok (fctM c.1 (f := faM300) (j := 300) rfl))), b__law_pick := F__law_pick.binds (ps := ["_law_state", "_law_one", "_law_other", "_law_wild_here"]) fun _ _ _ _ _ _ us hl => match us, hl with | [_, _, _, _], _ => rfl, a_law := (He.ga K "law"), fd_law := _, F_law := F_law, g_law := (PySem.W.mg_of X G (He.eqO_ok (fctM c.1 (f := faM303) (j := 303) rfl))), b_law := F_law.binds (ps := ["_law_script"]) fun _ _ _ _ _ _ us hl => match us, hl with | [_], _ => rfl, m_abs := PySem.W.mg_none_of X G (He.eqO_ok (fctM c.1 (f := faM304) (j := 304) rfl)), m_all := PySem.W.mg_none_of X G (He.eqO_ok (fctM c.1 (f := faM305) (j := 305) rfl)), m_any := PySem.W.mg_none_of X G (He.eqO_ok (fctM c.1 (f := faM306) (j := 306) rfl)), m_bool := PySem.W.mg_none_of X G (He.eqO_ok (fctM c.1 (f := faM307) (j := 307) rfl)), m_dict := PySem.W.mg_none_of X G (He.eqO_ok (fctM c.1 (f := faM308) (j := 308) rfl)), m_int := PySem.W.mg_none_of X G (He.eqO_ok (fctM c.1 (f := faM309) (j := 309) rfl)), m_isinstance := PySem.W.mg_none_of X G (He.eqO_ok (fctM c.1 (f := faM310) (j := 310) rfl)), m_len := PySem.W.mg_none_of X G (He.eqO_ok (fctM c.1 (f := faM311) (j := 311) rfl)), m_list := PySem.W.mg_none_of X G (He.eqO_ok (fctM c.1 (f := faM312) (j := 312) rfl)), m_max := PySem.W.mg_none_of X G (He.eqO_ok (fctM c.1 (f := faM313) (j := 313) rfl)), m_min := PySem.W.mg_none_of X G (He.eqO_ok (fctM c.1 (f := faM314) (j := 314) rfl)), m_range := PySem.W.mg_none_of X G (He.eqO_ok (fctM c.1 (f := faM315) (j := 315) rfl)), m_set := PySem.W.mg_none_of X G (He.eqO_ok (fctM c.1 (f := faM316) (j := 316) rfl)), m_sorted := PySem.W.mg_none_of X G (He.eqO_ok (fctM c.1 (f := faM317) (j := 317) rfl)), m_tuple := PySem.W.mg_none_of X G (He.eqO_ok (fctM c.1 (f := faM318) (j := 318) rfl)), tk_LEAST_POSTS := tk_LEAST_POSTS, m_LEAST_POSTS := mt_LEAST_POSTS, tk_MOST_POSTS := tk_MOST_POSTS, m_MOST_POSTS := mt_MOST_POSTS, m_combinations := (PySem.W.mg_of X G (He.eqO_ok (fctM c.1 (f := faM321) (j := 321) rfl))), m_gcd := (PySem.W.mg_of X G (He.eqO_ok (fctM c.1 (f := faM322) (j := 322) rfl))) }
  exact ⟨PySem.W.fnOf "law" "law" (defArgs s_law) (defBody s_law) (defScope s_law) .none kV_law doc_law pm_law an_law cd_law ct_law, fun s v => .of_eq rfl, fun base _ _ => ok_law T⟩
end
end My
open PySem PySem.W PySem.Calls PyProof.Rows
set_option maxRecDepth 100000 in
set_option maxHeartbeats 0 in
theorem PySem.Challenge.cw_postmead_k40_posts_drawn_holds : PySem.Challenge.rw_postmead_k40_posts_drawn.Holds := by
  w_on; o_law
  refine HandSHeadRun.head_imp (r := OpenLaw.row PySem.Challenge.rw_postmead_k40_posts_drawn) (q := view (OpenLaw.row PySem.Challenge.rw_postmead_k40_posts_drawn).prog [86]) (H := My.hkM) (ob := My.obM) (M := 9000) (loose := My.looM) (d := HandSHeadRun.topDef (OpenLaw.row PySem.Challenge.rw_postmead_k40_posts_drawn).prog 86) (kwd := []) My.obM_eq
    My.runM (by kernel_rfl) (by kernel_rfl) (by kernel_rfl) (by rfl) (by first | assumption | decide +kernel) (by decide +kernel) ⟨rfl, rfl, rfl, rfl, rfl, by decide +kernel⟩ ?hw ?hc
  case hw => w_witness2
  case hc =>
    refine L2.walk_ofE (l := PySem.Challenge.rw_postmead_k40_posts_drawn) (n := 63) (k := 11) (x := "_law_script") (CX := L2.CX0) rfl (by decide) (by kernel_rfl) ⟨rfl, by decide, by decide⟩ ?F (fun _ _ _ _ z => z)
    intro w mg fa h Y G hmg0
    obtain ⟨K, KX, c⟩ := Y
    have hmg : mg ("law" : PySem.Str) = some (.ref fa) := by
      have e : (HandSHeadRun.topDef (OpenLaw.row PySem.Challenge.rw_postmead_k40_posts_drawn).prog 86).name = ("law" : PySem.Str) := by kernel_rfl
      rw [← e]
      exact hmg0
    obtain ⟨fd, hb, hF⟩ := My.all_mk (P := (OpenLaw.row PySem.Challenge.rw_postmead_k40_posts_drawn).prog) (w := w) KX G hmg c
    exact ⟨K, fd, My.sp_law K, KX, hb, fun H a ns hl _ hS => ⟨a, ns, rfl, hS, hl, fun _ => rfl⟩, hF⟩
#print axioms PySem.Challenge.cw_postmead_k40_posts_drawn_holds
