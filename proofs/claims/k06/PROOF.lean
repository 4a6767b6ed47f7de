
import PyProof.Rows.All
import HandS.Head0
import HandS.Head1
import HandS.Head2
import HandS.Head3
import HandS.HeadEnd
import HandS.HeadHook1
import Wide.All
import OpenK.AllK
import Wide.FinOn
import HandS.ForMost
import HandS.ForExc
import HandS.Wide
import HandS.Gcd
import HandS.IsInst
import HandS.ExcIs
import HandS.Codes
import KE.SortData
import KE.KDictKeyed
import KE.KDictCopyH
import KE.KDictSum
import KE.DataCmp
import HandS.TupAny
import HandS.Conv
import HandS.SortRule
import HandS.Deep
import KE.DataMinMax
import HandS.SortInts
import KE.KDictWalk
import KE.KDictOf
import HandS.DictTup
import HandS.DictComp
import HandS.SortKw
import PyProof.ZipIter
import PyProof.CallType
import PyProof.RangeIter
import PyProof.RulesTry
import HandS.Iter
import HandS.TupLe
import KE.KEqDict
import HandS.Style
import HandS.Zip
import HandS.Walk
import HandS.Flow
import HandS.WideBits
import KE.KDictDisplayH
import PyProof.Rows.TupDisplay
import PySem.Challenge.RW_postmead_k06_letters_worth
set_option Elab.async false
set_option linter.all false
set_option maxRecDepth 100000
set_option maxHeartbeats 4000000
namespace My
open PySem PySem.Spec PyProof.Rows L2
/-! ### readings: small steps -/
local macro_rules | `(tactic| walk_at "rd") => `(tactic| repeat (first
  | refine ⟨_, rfl, ?_⟩
  | refine ⟨_, _, rfl, rfl, ?_⟩
  | refine ⟨.inr ⟨by decide, by decide⟩, ?_⟩
  | refine ⟨by decide, ?_⟩))
theorem op_fdivX {X : Cx} : OpR X (binaryOp .FloorDiv) (rI (fun _ j => j ≠ 0 ∧ j.natAbs.log2 < 9000) fun i j => .int (i.fdiv j)) :=
  opI fun _ _ _ _ _ _ _ hc q => floordiv_int hc.1 q (.inl (PyProof.noPylong_of_log2 hc.2))
theorem op_mulU {X : Cx} : OpR X (binaryOp .Mult) (rI IntMulOk fun i j => .int (i * j)) := opI fun _ _ _ _ _ _ _ hc q => mul_int q hc
theorem mulL {i j : Int} (h0 : -(2 ^ 64) < i) (h1 : i < 2 ^ 64) : IntMulOk i j := CMul.ok (.inl ⟨h0, h1⟩)
theorem mulR {i j : Int} (h0 : -(2 ^ 64) < j) (h1 : j < 2 ^ 64) : IntMulOk i j := CMul.ok (.inr ⟨h0, h1⟩)
theorem nd {p : Prop} [Decidable p] (h : ¬ decide p = true) : ¬ p := fun hp => h (decide_eq_true hp)
theorem zc_of {cls : Value} {d : Option Addr} {C : Addr} {oe : Obj} (h : Zc cls d oe) (e : cls = .ref C ∧ d = none) : Zc (.ref C) none oe := by
  obtain ⟨e1, e2⟩ := e
  rw [← e1, ← e2]
  exact h
theorem same_new {H : Hp} {p : Addr} {o : HO} (h : H p = none) : Same H (upd H p o) := fun b x e => by
  rw [upd_ne (ne_of_none e h)]
  exact e
theorem same_put {H H' : Hp} {p : Addr} {o : HO} (s : Same H H') (h : H p = none) : Same H (upd H' p o) := fun b x e => by
  rw [upd_ne (ne_of_none e h)]
  exact s _ _ e
theorem log_small {n b : Nat} (h0 : 0 < b) (h : n < 2 ^ b) (h9 : b ≤ 9000) : n.log2 < 9000 := Nat.lt_of_lt_of_le (PySem.Flt.log2_lt_of h0 h) h9
theorem pss_guard {X : Cx} {b : List Stmt} {t : TS} {P : Prop} (h : P → PSs X b t) : PSs X b (fun D σ H => P ∧ t D σ H) :=
  ⟨fun pins s σ H D I q => (h q.1).run pins s σ H D I q.2⟩
def topS (i : Nat) : Stmt := PySem.Challenge.pw_postmead_k06_letters_worth.main.body.getD i (.Pass ⟨0, 0, 0, 0⟩)
abbrev s_lowest : Stmt := topS 6
theorem sc_lowest : FnScope ["top", "bottom", "divisor"] ["top", "bottom"] (defScope s_lowest) := ⟨rfl, rfl, rfl, by decide +kernel, rfl, by decide +kernel, by decide +kernel⟩
abbrev s_worth : Stmt := topS 8
theorem sc_worth : FnScope ["one", "lengths", "bottom", "top", "row", "count", "above", "below"] ["one", "lengths"] (defScope s_worth) := ⟨rfl, rfl, rfl, by decide +kernel, rfl, by decide +kernel, by decide +kernel⟩
abbrev s_shared_bottom : Stmt := topS 9
theorem sc_shared_bottom : FnScope ["one", "lengths", "most", "row", "_", "pair", "power", "key", "bottom", "place"] ["one", "lengths"] (defScope s_shared_bottom) := ⟨rfl, rfl, rfl, by decide +kernel, rfl, by decide +kernel, by decide +kernel⟩
abbrev s_row_worth : Stmt := topS 10
theorem sc_row_worth : FnScope ["row", "lengths", "top", "bottom", "pair", "power", "place"] ["row", "lengths"] (defScope s_row_worth) := ⟨rfl, rfl, rfl, by decide +kernel, rfl, by decide +kernel, by decide +kernel⟩
abbrev s_bottom_place : Stmt := topS 11
theorem sc_bottom_place : FnScope ["power"] ["power"] (defScope s_bottom_place) := ⟨rfl, rfl, rfl, by decide +kernel, rfl, by decide +kernel, by decide +kernel⟩
abbrev s_raised : Stmt := topS 12
theorem sc_raised : FnScope ["base", "power", "result"] ["base", "power"] (defScope s_raised) := ⟨rfl, rfl, rfl, by decide +kernel, rfl, by decide +kernel, by decide +kernel⟩
abbrev s__law_flow : Stmt := topS 14
theorem sc__law_flow : FnScope ["_law_script", "_law_many", "_law_great", "_law_row", "_law_k", "_law_cell", "_law_mixed"] ["_law_script", "_law_many"] (defScope s__law_flow) := ⟨rfl, rfl, rfl, by decide +kernel, rfl, by decide +kernel, by decide +kernel⟩
abbrev s__law_whole : Stmt := topS 15
theorem sc__law_whole : FnScope ["_law_found"] ["_law_found"] (defScope s__law_whole) := ⟨rfl, rfl, rfl, by decide +kernel, rfl, by decide +kernel, by decide +kernel⟩
abbrev s__law_low : Stmt := topS 16
theorem sc__law_low : FnScope ["_law_top", "_law_bottom", "_law_one", "_law_other"] ["_law_top", "_law_bottom"] (defScope s__law_low) := ⟨rfl, rfl, rfl, by decide +kernel, rfl, by decide +kernel, by decide +kernel⟩
abbrev s__law_add : Stmt := topS 17
theorem sc__law_add : FnScope ["_law_one", "_law_other"] ["_law_one", "_law_other"] (defScope s__law_add) := ⟨rfl, rfl, rfl, by decide +kernel, rfl, by decide +kernel, by decide +kernel⟩
abbrev s__law_mul : Stmt := topS 18
theorem sc__law_mul : FnScope ["_law_one", "_law_other"] ["_law_one", "_law_other"] (defScope s__law_mul) := ⟨rfl, rfl, rfl, by decide +kernel, rfl, by decide +kernel, by decide +kernel⟩
abbrev s__law_div : Stmt := topS 19
theorem sc__law_div : FnScope ["_law_one", "_law_other"] ["_law_one", "_law_other"] (defScope s__law_div) := ⟨rfl, rfl, rfl, by decide +kernel, rfl, by decide +kernel, by decide +kernel⟩
abbrev s__law_part : Stmt := topS 20
theorem sc__law_part : FnScope ["_law_found"] ["_law_found"] (defScope s__law_part) := ⟨rfl, rfl, rfl, by decide +kernel, rfl, by decide +kernel, by decide +kernel⟩
abbrev s__law_size : Stmt := topS 21
theorem sc__law_size : FnScope ["_law_one"] ["_law_one"] (defScope s__law_size) := ⟨rfl, rfl, rfl, by decide +kernel, rfl, by decide +kernel, by decide +kernel⟩
abbrev s__law_row_times : Stmt := topS 22
theorem sc__law_row_times : FnScope ["_law_one", "_law_other", "_law_powers", "_law_mark", "_law_power"] ["_law_one", "_law_other"] (defScope s__law_row_times) := ⟨rfl, rfl, rfl, by decide +kernel, rfl, by decide +kernel, by decide +kernel⟩
abbrev s__law_settled : Stmt := topS 23
theorem sc__law_settled : FnScope ["_law_terms", "_law_counts", "_law_row", "_law_count"] ["_law_terms"] (defScope s__law_settled) := ⟨rfl, rfl, rfl, by decide +kernel, rfl, by decide +kernel, by decide +kernel⟩
abbrev s__law_times : Stmt := topS 24
theorem sc__law_times : FnScope ["_law_one", "_law_other", "_law_terms", "_law_row", "_law_count", "_law_late", "_law_many"] ["_law_one", "_law_other"] (defScope s__law_times) := ⟨rfl, rfl, rfl, by decide +kernel, rfl, by decide +kernel, by decide +kernel⟩
abbrev s__law_draw_sum : Stmt := topS 25
theorem sc__law_draw_sum : FnScope ["_law_row", "_law_terms", "_law_marks", "_law_made", "_law_k", "_law_powers", "_law_i", "_law_one", "_law_a", "_law_b"] ["_law_row", "_law_terms", "_law_marks"] (defScope s__law_draw_sum) := ⟨rfl, rfl, rfl, by decide +kernel, rfl, by decide +kernel, by decide +kernel⟩
abbrev s__law_worth : Stmt := topS 26
theorem sc__law_worth : FnScope ["_law_one", "_law_lengths", "_law_value", "_law_row", "_law_count", "_law_part_here", "_law_mark", "_law_power", "_law_turn"] ["_law_one", "_law_lengths"] (defScope s__law_worth) := ⟨rfl, rfl, rfl, by decide +kernel, rfl, by decide +kernel, by decide +kernel⟩
abbrev s_law : Stmt := topS 27
theorem sc_law : FnScope ["_law_script", "_law_row", "_law_one", "_law_lengths", "_law_marks", "_law_powers", "_law_count", "_law_mark", "_law_power", "_law_missing", "_law_handed", "_law_terms", "_law_found", "e"] ["_law_script"] (defScope s_law) := ⟨rfl, rfl, rfl, by decide +kernel, rfl, by decide +kernel, by decide +kernel⟩
structure Env (K : PySem.W.Frag) (mg : Str → Option Value) where
  C_MeadError : Addr
  c_MeadError : mg "MeadError" = some (.ref C_MeadError)
  x_MeadError : PySem.W.excIn K C_MeadError [.type "ValueError", .type "Exception", .type "BaseException", .type "object"] "ValueError.__new__" = true
  k_MeadError : PySem.W.keepIn K (.ref C_MeadError) = true
  bs_MeadError : PySem.W.subIn K (.ref C_MeadError) (.type "BaseException") = some true
  ty_MeadError : PySem.W.typeIn K (.ref C_MeadError) = some (.type "type")
  e_MeadError : ExcC K C_MeadError
  C_NoFraction : Addr
  c_NoFraction : mg "NoFraction" = some (.ref C_NoFraction)
  x_NoFraction : PySem.W.excIn K C_NoFraction [.type "ValueError", .type "Exception", .type "BaseException", .type "object"] "ValueError.__new__" = true
  k_NoFraction : PySem.W.keepIn K (.ref C_NoFraction) = true
  bs_NoFraction : PySem.W.subIn K (.ref C_NoFraction) (.type "BaseException") = some true
  ty_NoFraction : PySem.W.typeIn K (.ref C_NoFraction) = some (.type "type")
  e_NoFraction : ExcC K C_NoFraction
  C_NoLetter : Addr
  c_NoLetter : mg "NoLetter" = some (.ref C_NoLetter)
  x_NoLetter : PySem.W.excIn K C_NoLetter [.type "ValueError", .type "Exception", .type "BaseException", .type "object"] "ValueError.__new__" = true
  k_NoLetter : PySem.W.keepIn K (.ref C_NoLetter) = true
  bs_NoLetter : PySem.W.subIn K (.ref C_NoLetter) (.type "BaseException") = some true
  ty_NoLetter : PySem.W.typeIn K (.ref C_NoLetter) = some (.type "type")
  e_NoLetter : ExcC K C_NoLetter
  sub_NoLetter_MeadError : PySem.W.subIn K (.ref C_NoLetter) (.ref C_MeadError) = some true
  kit_NoLetter_NoLetter : PySem.W.kitOne K (.ref C_NoLetter) (.ref C_NoLetter) = some true
  a_lowest : Addr
  fd_lowest : FuncData
  F_lowest : Fun K "lowest" "lowest" s_lowest a_lowest fd_lowest
  g_lowest : mg "lowest" = some (.ref a_lowest)
  b_lowest : Binds K fd_lowest ["top", "bottom"] []
  a_worth : Addr
  fd_worth : FuncData
  F_worth : Fun K "worth" "worth" s_worth a_worth fd_worth
  g_worth : mg "worth" = some (.ref a_worth)
  b_worth : Binds K fd_worth ["one", "lengths"] []
  a_shared_bottom : Addr
  fd_shared_bottom : FuncData
  F_shared_bottom : Fun K "shared_bottom" "shared_bottom" s_shared_bottom a_shared_bottom fd_shared_bottom
  g_shared_bottom : mg "shared_bottom" = some (.ref a_shared_bottom)
  b_shared_bottom : Binds K fd_shared_bottom ["one", "lengths"] []
  a_row_worth : Addr
  fd_row_worth : FuncData
  F_row_worth : Fun K "row_worth" "row_worth" s_row_worth a_row_worth fd_row_worth
  g_row_worth : mg "row_worth" = some (.ref a_row_worth)
  b_row_worth : Binds K fd_row_worth ["row", "lengths"] []
  a_bottom_place : Addr
  fd_bottom_place : FuncData
  F_bottom_place : Fun K "bottom_place" "bottom_place" s_bottom_place a_bottom_place fd_bottom_place
  g_bottom_place : mg "bottom_place" = some (.ref a_bottom_place)
  b_bottom_place : Binds K fd_bottom_place ["power"] []
  a_raised : Addr
  fd_raised : FuncData
  F_raised : Fun K "raised" "raised" s_raised a_raised fd_raised
  g_raised : mg "raised" = some (.ref a_raised)
  b_raised : Binds K fd_raised ["base", "power"] []
  a__law_flow : Addr
  fd__law_flow : FuncData
  F__law_flow : Fun K "_law_flow" "_law_flow" s__law_flow a__law_flow fd__law_flow
  g__law_flow : mg "_law_flow" = some (.ref a__law_flow)
  b__law_flow : Binds K fd__law_flow ["_law_script", "_law_many"] []
  a__law_whole : Addr
  fd__law_whole : FuncData
  F__law_whole : Fun K "_law_whole" "_law_whole" s__law_whole a__law_whole fd__law_whole
  g__law_whole : mg "_law_whole" = some (.ref a__law_whole)
  b__law_whole : Binds K fd__law_whole ["_law_found"] []
  a__law_low : Addr
  fd__law_low : FuncData
  F__law_low : Fun K "_law_low" "_law_low" s__law_low a__law_low fd__law_low
  g__law_low : mg "_law_low" = some (.ref a__law_low)
  b__law_low : Binds K fd__law_low ["_law_top", "_law_bottom"] []
  a__law_add : Addr
  fd__law_add : FuncData
  F__law_add : Fun K "_law_add" "_law_add" s__law_add a__law_add fd__law_add
  g__law_add : mg "_law_add" = some (.ref a__law_add)
  b__law_add : Binds K fd__law_add ["_law_one", "_law_other"] []
  a__law_mul : Addr
  fd__law_mul : FuncData
  F__law_mul : Fun K "_law_mul" "_law_mul" s__law_mul a__law_mul fd__law_mul
  g__law_mul : mg "_law_mul" = some (.ref a__law_mul)
  b__law_mul : Binds K fd__law_mul ["_law_one", "_law_other"] []
  a__law_div : Addr
  fd__law_div : FuncData
  F__law_div : Fun K "_law_div" "_law_div" s__law_div a__law_div fd__law_div
  g__law_div : mg "_law_div" = some (.ref a__law_div)
  b__law_div : Binds K fd__law_div ["_law_one", "_law_other"] []
  a__law_part : Addr
  fd__law_part : FuncData
  F__law_part : Fun K "_law_part" "_law_part" s__law_part a__law_part fd__law_part
  g__law_part : mg "_law_part" = some (.ref a__law_part)
  b__law_part : Binds K fd__law_part ["_law_found"] []
  a__law_size : Addr
  fd__law_size : FuncData
  F__law_size : Fun K "_law_size" "_law_size" s__law_size a__law_size fd__law_size
  g__law_size : mg "_law_size" = some (.ref a__law_size)
  b__law_size : Binds K fd__law_size ["_law_one"] []
  a__law_row_times : Addr
  fd__law_row_times : FuncData
  F__law_row_times : Fun K "_law_row_times" "_law_row_times" s__law_row_times a__law_row_times fd__law_row_times
  g__law_row_times : mg "_law_row_times" = some (.ref a__law_row_times)
  b__law_row_times : Binds K fd__law_row_times ["_law_one", "_law_other"] []
  a__law_settled : Addr
  fd__law_settled : FuncData
  F__law_settled : Fun K "_law_settled" "_law_settled" s__law_settled a__law_settled fd__law_settled
  g__law_settled : mg "_law_settled" = some (.ref a__law_settled)
  b__law_settled : Binds K fd__law_settled ["_law_terms"] []
  a__law_times : Addr
  fd__law_times : FuncData
  F__law_times : Fun K "_law_times" "_law_times" s__law_times a__law_times fd__law_times
  g__law_times : mg "_law_times" = some (.ref a__law_times)
  b__law_times : Binds K fd__law_times ["_law_one", "_law_other"] []
  a__law_draw_sum : Addr
  fd__law_draw_sum : FuncData
  F__law_draw_sum : Fun K "_law_draw_sum" "_law_draw_sum" s__law_draw_sum a__law_draw_sum fd__law_draw_sum
  g__law_draw_sum : mg "_law_draw_sum" = some (.ref a__law_draw_sum)
  b__law_draw_sum : Binds K fd__law_draw_sum ["_law_row", "_law_terms", "_law_marks"] []
  a__law_worth : Addr
  fd__law_worth : FuncData
  F__law_worth : Fun K "_law_worth" "_law_worth" s__law_worth a__law_worth fd__law_worth
  g__law_worth : mg "_law_worth" = some (.ref a__law_worth)
  b__law_worth : Binds K fd__law_worth ["_law_one", "_law_lengths"] []
  a_law : Addr
  fd_law : FuncData
  F_law : Fun K "law" "law" s_law a_law fd_law
  g_law : mg "law" = some (.ref a_law)
  b_law : Binds K fd_law ["_law_script"] []
  m_abs : mg "abs" = none
  m_bool : mg "bool" = none
  m_dict : mg "dict" = none
  m_int : mg "int" = none
  m_isinstance : mg "isinstance" = none
  m_len : mg "len" = none
  m_list : mg "list" = none
  m_max : mg "max" = none
  m_range : mg "range" = none
  m_sorted : mg "sorted" = none
  m_tuple : mg "tuple" = none
  m_gcd : mg "gcd" = some (.builtin "math.gcd")
def nthM {α : Type} : List α → Nat → Option α
  | [], _ => none
  | a :: _, 0 => some a
  | _ :: l, n + 1 => nthM l n
theorem nthM_map {α β : Type} {u v : α → β} : ∀ {l : List α} {j : Nat} {d : α}, l.map u = l.map v → nthM l j = some d → u d = v d
  | a :: l, 0, d, e, h => by cases h; exact (List.cons.inj e).1
  | a :: l, j + 1, d, e, h => nthM_map (l := l) (List.cons.inj e).2 h
def faM0 (K : PySem.W.Frag) : Bool := decide (PySem.W.subIn K (.ref (He.ga K "MeadError")) (.type "BaseException") = some true)
def faM1 (K : PySem.W.Frag) : Bool := He.eqO (PySem.W.findIn K (.ref (He.ga K "MeadError")) "__getattribute__") (some (some (.builtin "BaseException.__getattribute__")))
def faM2 (K : PySem.W.Frag) : Bool := He.eqO (PySem.W.findIn K (.ref (He.ga K "MeadError")) "__getattr__") (some none)
def faM3 (K : PySem.W.Frag) : Bool := PySem.W.hasDictIn K (He.ga K "MeadError")
def faM4 (K : PySem.W.Frag) : Bool := He.eqO (PySem.W.findIn K (.ref (He.ga K "MeadError")) "__class__") (some (some (.builtin "object.__class__")))
def faM5 (K : PySem.W.Frag) : Bool := He.eqO (PySem.W.specialIn K (.builtin "object.__class__") "__get__") (some (some (.builtin "getset_descriptor.__get__")))
def faM6 (K : PySem.W.Frag) : Bool := decide (PySem.W.takesIn K (.builtin "object.__class__") = some true)
def faM7 (K : PySem.W.Frag) : Bool := decide (PySem.W.mroIn K (He.ga K "MeadError") (.type "object") = some true)
def faM8 (K : PySem.W.Frag) : Bool := He.eqO (PySem.W.nsIn K mainGlobals "MeadError") (some (some (.ref (He.ga K "MeadError"))))
def faM9 (K : PySem.W.Frag) : Bool := PySem.W.excIn K (He.ga K "MeadError") [.type "ValueError", .type "Exception", .type "BaseException", .type "object"] "ValueError.__new__"
def faM10 (K : PySem.W.Frag) : Bool := PySem.W.keepIn K (.ref (He.ga K "MeadError"))
def faM11 (K : PySem.W.Frag) : Bool := decide (PySem.W.typeIn K (.ref (He.ga K "MeadError")) = some (.type "type"))
def faM12 (K : PySem.W.Frag) : Bool := decide (PySem.W.subIn K (.ref (He.ga K "NoFraction")) (.type "BaseException") = some true)
def faM13 (K : PySem.W.Frag) : Bool := He.eqO (PySem.W.findIn K (.ref (He.ga K "NoFraction")) "__getattribute__") (some (some (.builtin "BaseException.__getattribute__")))
def faM14 (K : PySem.W.Frag) : Bool := He.eqO (PySem.W.findIn K (.ref (He.ga K "NoFraction")) "__getattr__") (some none)
def faM15 (K : PySem.W.Frag) : Bool := PySem.W.hasDictIn K (He.ga K "NoFraction")
def faM16 (K : PySem.W.Frag) : Bool := He.eqO (PySem.W.findIn K (.ref (He.ga K "NoFraction")) "__class__") (some (some (.builtin "object.__class__")))
def faM17 (K : PySem.W.Frag) : Bool := He.eqO (PySem.W.specialIn K (.builtin "object.__class__") "__get__") (some (some (.builtin "getset_descriptor.__get__")))
def faM18 (K : PySem.W.Frag) : Bool := decide (PySem.W.takesIn K (.builtin "object.__class__") = some true)
def faM19 (K : PySem.W.Frag) : Bool := decide (PySem.W.mroIn K (He.ga K "NoFraction") (.type "object") = some true)
def faM20 (K : PySem.W.Frag) : Bool := He.eqO (PySem.W.nsIn K mainGlobals "NoFraction") (some (some (.ref (He.ga K "NoFraction"))))
def faM21 (K : PySem.W.Frag) : Bool := PySem.W.excIn K (He.ga K "NoFraction") [.type "ValueError", .type "Exception", .type "BaseException", .type "object"] "ValueError.__new__"
def faM22 (K : PySem.W.Frag) : Bool := PySem.W.keepIn K (.ref (He.ga K "NoFraction"))
def faM23 (K : PySem.W.Frag) : Bool := decide (PySem.W.typeIn K (.ref (He.ga K "NoFraction")) = some (.type "type"))
def faM24 (K : PySem.W.Frag) : Bool := decide (PySem.W.subIn K (.ref (He.ga K "NoLetter")) (.type "BaseException") = some true)
def faM25 (K : PySem.W.Frag) : Bool := He.eqO (PySem.W.findIn K (.ref (He.ga K "NoLetter")) "__getattribute__") (some (some (.builtin "BaseException.__getattribute__")))
def faM26 (K : PySem.W.Frag) : Bool := He.eqO (PySem.W.findIn K (.ref (He.ga K "NoLetter")) "__getattr__") (some none)
def faM27 (K : PySem.W.Frag) : Bool := PySem.W.hasDictIn K (He.ga K "NoLetter")
def faM28 (K : PySem.W.Frag) : Bool := He.eqO (PySem.W.findIn K (.ref (He.ga K "NoLetter")) "__class__") (some (some (.builtin "object.__class__")))
def faM29 (K : PySem.W.Frag) : Bool := He.eqO (PySem.W.specialIn K (.builtin "object.__class__") "__get__") (some (some (.builtin "getset_descriptor.__get__")))
def faM30 (K : PySem.W.Frag) : Bool := decide (PySem.W.takesIn K (.builtin "object.__class__") = some true)
def faM31 (K : PySem.W.Frag) : Bool := decide (PySem.W.mroIn K (He.ga K "NoLetter") (.type "object") = some true)
def faM32 (K : PySem.W.Frag) : Bool := He.eqO (PySem.W.nsIn K mainGlobals "NoLetter") (some (some (.ref (He.ga K "NoLetter"))))
def faM33 (K : PySem.W.Frag) : Bool := PySem.W.excIn K (He.ga K "NoLetter") [.type "ValueError", .type "Exception", .type "BaseException", .type "object"] "ValueError.__new__"
def faM34 (K : PySem.W.Frag) : Bool := PySem.W.keepIn K (.ref (He.ga K "NoLetter"))
def faM35 (K : PySem.W.Frag) : Bool := decide (PySem.W.typeIn K (.ref (He.ga K "NoLetter")) = some (.type "type"))
def faM36 (K : PySem.W.Frag) : Bool := decide (PySem.W.subIn K (.ref (He.ga K "NoLetter")) (.ref (He.ga K "MeadError")) = some true)
def faM37 (K : PySem.W.Frag) : Bool := decide (PySem.W.kitOne K (.ref (He.ga K "NoLetter")) (.ref (He.ga K "NoLetter")) = some true)
def faM38 (K : PySem.W.Frag) : Bool := PySem.W.keepIn K (.ref (He.ga K "lowest"))
def faM39 (K : PySem.W.Frag) : Bool := He.Fa.ok K (.code ("lowest", none) "lowest")
def faM40 (K : PySem.W.Frag) : Bool := He.eqO (PySem.W.nsIn K mainGlobals "lowest") (some (some (.ref (He.ga K "lowest"))))
def faM41 (K : PySem.W.Frag) : Bool := PySem.W.keepIn K (.ref (He.ga K "worth"))
def faM42 (K : PySem.W.Frag) : Bool := He.Fa.ok K (.code ("worth", none) "worth")
def faM43 (K : PySem.W.Frag) : Bool := He.eqO (PySem.W.nsIn K mainGlobals "worth") (some (some (.ref (He.ga K "worth"))))
def faM44 (K : PySem.W.Frag) : Bool := PySem.W.keepIn K (.ref (He.ga K "shared_bottom"))
def faM45 (K : PySem.W.Frag) : Bool := He.Fa.ok K (.code ("shared_bottom", none) "shared_bottom")
def faM46 (K : PySem.W.Frag) : Bool := He.eqO (PySem.W.nsIn K mainGlobals "shared_bottom") (some (some (.ref (He.ga K "shared_bottom"))))
def faM47 (K : PySem.W.Frag) : Bool := PySem.W.keepIn K (.ref (He.ga K "row_worth"))
def faM48 (K : PySem.W.Frag) : Bool := He.Fa.ok K (.code ("row_worth", none) "row_worth")
def faM49 (K : PySem.W.Frag) : Bool := He.eqO (PySem.W.nsIn K mainGlobals "row_worth") (some (some (.ref (He.ga K "row_worth"))))
def faM50 (K : PySem.W.Frag) : Bool := PySem.W.keepIn K (.ref (He.ga K "bottom_place"))
def faM51 (K : PySem.W.Frag) : Bool := He.Fa.ok K (.code ("bottom_place", none) "bottom_place")
def faM52 (K : PySem.W.Frag) : Bool := He.eqO (PySem.W.nsIn K mainGlobals "bottom_place") (some (some (.ref (He.ga K "bottom_place"))))
def faM53 (K : PySem.W.Frag) : Bool := PySem.W.keepIn K (.ref (He.ga K "raised"))
def faM54 (K : PySem.W.Frag) : Bool := He.Fa.ok K (.code ("raised", none) "raised")
def faM55 (K : PySem.W.Frag) : Bool := He.eqO (PySem.W.nsIn K mainGlobals "raised") (some (some (.ref (He.ga K "raised"))))
def faM56 (K : PySem.W.Frag) : Bool := PySem.W.keepIn K (.ref (He.ga K "_law_flow"))
def faM57 (K : PySem.W.Frag) : Bool := He.Fa.ok K (.code ("_law_flow", none) "_law_flow")
def faM58 (K : PySem.W.Frag) : Bool := He.eqO (PySem.W.nsIn K mainGlobals "_law_flow") (some (some (.ref (He.ga K "_law_flow"))))
def faM59 (K : PySem.W.Frag) : Bool := PySem.W.keepIn K (.ref (He.ga K "_law_whole"))
def faM60 (K : PySem.W.Frag) : Bool := He.Fa.ok K (.code ("_law_whole", none) "_law_whole")
def faM61 (K : PySem.W.Frag) : Bool := He.eqO (PySem.W.nsIn K mainGlobals "_law_whole") (some (some (.ref (He.ga K "_law_whole"))))
def faM62 (K : PySem.W.Frag) : Bool := PySem.W.keepIn K (.ref (He.ga K "_law_low"))
def faM63 (K : PySem.W.Frag) : Bool := He.Fa.ok K (.code ("_law_low", none) "_law_low")
def faM64 (K : PySem.W.Frag) : Bool := He.eqO (PySem.W.nsIn K mainGlobals "_law_low") (some (some (.ref (He.ga K "_law_low"))))
def faM65 (K : PySem.W.Frag) : Bool := PySem.W.keepIn K (.ref (He.ga K "_law_add"))
def faM66 (K : PySem.W.Frag) : Bool := He.Fa.ok K (.code ("_law_add", none) "_law_add")
def faM67 (K : PySem.W.Frag) : Bool := He.eqO (PySem.W.nsIn K mainGlobals "_law_add") (some (some (.ref (He.ga K "_law_add"))))
def faM68 (K : PySem.W.Frag) : Bool := PySem.W.keepIn K (.ref (He.ga K "_law_mul"))
def faM69 (K : PySem.W.Frag) : Bool := He.Fa.ok K (.code ("_law_mul", none) "_law_mul")
def faM70 (K : PySem.W.Frag) : Bool := He.eqO (PySem.W.nsIn K mainGlobals "_law_mul") (some (some (.ref (He.ga K "_law_mul"))))
def faM71 (K : PySem.W.Frag) : Bool := PySem.W.keepIn K (.ref (He.ga K "_law_div"))
def faM72 (K : PySem.W.Frag) : Bool := He.Fa.ok K (.code ("_law_div", none) "_law_div")
def faM73 (K : PySem.W.Frag) : Bool := He.eqO (PySem.W.nsIn K mainGlobals "_law_div") (some (some (.ref (He.ga K "_law_div"))))
def faM74 (K : PySem.W.Frag) : Bool := PySem.W.keepIn K (.ref (He.ga K "_law_part"))
def faM75 (K : PySem.W.Frag) : Bool := He.Fa.ok K (.code ("_law_part", none) "_law_part")
def faM76 (K : PySem.W.Frag) : Bool := He.eqO (PySem.W.nsIn K mainGlobals "_law_part") (some (some (.ref (He.ga K "_law_part"))))
def faM77 (K : PySem.W.Frag) : Bool := PySem.W.keepIn K (.ref (He.ga K "_law_size"))
def faM78 (K : PySem.W.Frag) : Bool := He.Fa.ok K (.code ("_law_size", none) "_law_size")
def faM79 (K : PySem.W.Frag) : Bool := He.eqO (PySem.W.nsIn K mainGlobals "_law_size") (some (some (.ref (He.ga K "_law_size"))))
def faM80 (K : PySem.W.Frag) : Bool := PySem.W.keepIn K (.ref (He.ga K "_law_row_times"))
def faM81 (K : PySem.W.Frag) : Bool := He.Fa.ok K (.code ("_law_row_times", none) "_law_row_times")
def faM82 (K : PySem.W.Frag) : Bool := He.eqO (PySem.W.nsIn K mainGlobals "_law_row_times") (some (some (.ref (He.ga K "_law_row_times"))))
def faM83 (K : PySem.W.Frag) : Bool := PySem.W.keepIn K (.ref (He.ga K "_law_settled"))
def faM84 (K : PySem.W.Frag) : Bool := He.Fa.ok K (.code ("_law_settled", none) "_law_settled")
def faM85 (K : PySem.W.Frag) : Bool := He.eqO (PySem.W.nsIn K mainGlobals "_law_settled") (some (some (.ref (He.ga K "_law_settled"))))
def faM86 (K : PySem.W.Frag) : Bool := PySem.W.keepIn K (.ref (He.ga K "_law_times"))
def faM87 (K : PySem.W.Frag) : Bool := He.Fa.ok K (.code ("_law_times", none) "_law_times")
def faM88 (K : PySem.W.Frag) : Bool := He.eqO (PySem.W.nsIn K mainGlobals "_law_times") (some (some (.ref (He.ga K "_law_times"))))
def faM89 (K : PySem.W.Frag) : Bool := PySem.W.keepIn K (.ref (He.ga K "_law_draw_sum"))
def faM90 (K : PySem.W.Frag) : Bool := He.Fa.ok K (.code ("_law_draw_sum", none) "_law_draw_sum")
def faM91 (K : PySem.W.Frag) : Bool := He.eqO (PySem.W.nsIn K mainGlobals "_law_draw_sum") (some (some (.ref (He.ga K "_law_draw_sum"))))
def faM92 (K : PySem.W.Frag) : Bool := PySem.W.keepIn K (.ref (He.ga K "_law_worth"))
def faM93 (K : PySem.W.Frag) : Bool := He.Fa.ok K (.code ("_law_worth", none) "_law_worth")
def faM94 (K : PySem.W.Frag) : Bool := He.eqO (PySem.W.nsIn K mainGlobals "_law_worth") (some (some (.ref (He.ga K "_law_worth"))))
def faM95 (K : PySem.W.Frag) : Bool := PySem.W.keepIn K (.ref (He.ga K "law"))
def faM96 (K : PySem.W.Frag) : Bool := He.Fa.ok K (.code ("law", none) "law")
def faM97 (K : PySem.W.Frag) : Bool := He.eqO (PySem.W.nsIn K mainGlobals "law") (some (some (.ref (He.ga K "law"))))
def faM98 (K : PySem.W.Frag) : Bool := He.eqO (PySem.W.nsIn K mainGlobals "abs") (some none)
def faM99 (K : PySem.W.Frag) : Bool := He.eqO (PySem.W.nsIn K mainGlobals "bool") (some none)
def faM100 (K : PySem.W.Frag) : Bool := He.eqO (PySem.W.nsIn K mainGlobals "dict") (some none)
def faM101 (K : PySem.W.Frag) : Bool := He.eqO (PySem.W.nsIn K mainGlobals "int") (some none)
def faM102 (K : PySem.W.Frag) : Bool := He.eqO (PySem.W.nsIn K mainGlobals "isinstance") (some none)
def faM103 (K : PySem.W.Frag) : Bool := He.eqO (PySem.W.nsIn K mainGlobals "len") (some none)
def faM104 (K : PySem.W.Frag) : Bool := He.eqO (PySem.W.nsIn K mainGlobals "list") (some none)
def faM105 (K : PySem.W.Frag) : Bool := He.eqO (PySem.W.nsIn K mainGlobals "max") (some none)
def faM106 (K : PySem.W.Frag) : Bool := He.eqO (PySem.W.nsIn K mainGlobals "range") (some none)
def faM107 (K : PySem.W.Frag) : Bool := He.eqO (PySem.W.nsIn K mainGlobals "sorted") (some none)
def faM108 (K : PySem.W.Frag) : Bool := He.eqO (PySem.W.nsIn K mainGlobals "tuple") (some none)
def faM109 (K : PySem.W.Frag) : Bool := He.eqO (PySem.W.nsIn K mainGlobals "gcd") (some (some (.builtin "math.gcd")))
def faM110 (K : PySem.W.Frag) : Bool := He.eqO (PySem.W.nsIn K mainGlobals "law") (some (some (.ref (He.ga K "law"))))
def dM_lowest : He.FnD := ⟨("lowest", none), "lowest", "lowest", defArgs s_lowest, defBody s_lowest, defScope s_lowest⟩
def dM_worth : He.FnD := ⟨("worth", none), "worth", "worth", defArgs s_worth, defBody s_worth, defScope s_worth⟩
def dM_shared_bottom : He.FnD := ⟨("shared_bottom", none), "shared_bottom", "shared_bottom", defArgs s_shared_bottom, defBody s_shared_bottom, defScope s_shared_bottom⟩
def dM_row_worth : He.FnD := ⟨("row_worth", none), "row_worth", "row_worth", defArgs s_row_worth, defBody s_row_worth, defScope s_row_worth⟩
def dM_bottom_place : He.FnD := ⟨("bottom_place", none), "bottom_place", "bottom_place", defArgs s_bottom_place, defBody s_bottom_place, defScope s_bottom_place⟩
def dM_raised : He.FnD := ⟨("raised", none), "raised", "raised", defArgs s_raised, defBody s_raised, defScope s_raised⟩
def dM__law_flow : He.FnD := ⟨("_law_flow", none), "_law_flow", "_law_flow", defArgs s__law_flow, defBody s__law_flow, defScope s__law_flow⟩
def dM__law_whole : He.FnD := ⟨("_law_whole", none), "_law_whole", "_law_whole", defArgs s__law_whole, defBody s__law_whole, defScope s__law_whole⟩
def dM__law_low : He.FnD := ⟨("_law_low", none), "_law_low", "_law_low", defArgs s__law_low, defBody s__law_low, defScope s__law_low⟩
def dM__law_add : He.FnD := ⟨("_law_add", none), "_law_add", "_law_add", defArgs s__law_add, defBody s__law_add, defScope s__law_add⟩
def dM__law_mul : He.FnD := ⟨("_law_mul", none), "_law_mul", "_law_mul", defArgs s__law_mul, defBody s__law_mul, defScope s__law_mul⟩
def dM__law_div : He.FnD := ⟨("_law_div", none), "_law_div", "_law_div", defArgs s__law_div, defBody s__law_div, defScope s__law_div⟩
def dM__law_part : He.FnD := ⟨("_law_part", none), "_law_part", "_law_part", defArgs s__law_part, defBody s__law_part, defScope s__law_part⟩
def dM__law_size : He.FnD := ⟨("_law_size", none), "_law_size", "_law_size", defArgs s__law_size, defBody s__law_size, defScope s__law_size⟩
def dM__law_row_times : He.FnD := ⟨("_law_row_times", none), "_law_row_times", "_law_row_times", defArgs s__law_row_times, defBody s__law_row_times, defScope s__law_row_times⟩
def dM__law_settled : He.FnD := ⟨("_law_settled", none), "_law_settled", "_law_settled", defArgs s__law_settled, defBody s__law_settled, defScope s__law_settled⟩
def dM__law_times : He.FnD := ⟨("_law_times", none), "_law_times", "_law_times", defArgs s__law_times, defBody s__law_times, defScope s__law_times⟩
def dM__law_draw_sum : He.FnD := ⟨("_law_draw_sum", none), "_law_draw_sum", "_law_draw_sum", defArgs s__law_draw_sum, defBody s__law_draw_sum, defScope s__law_draw_sum⟩
def dM__law_worth : He.FnD := ⟨("_law_worth", none), "_law_worth", "_law_worth", defArgs s__law_worth, defBody s__law_worth, defScope s__law_worth⟩
def dM_law : He.FnD := ⟨("law", none), "law", "law", defArgs s_law, defBody s_law, defScope s_law⟩
def falM0 : List (PySem.W.Frag → Bool) := [faM0, faM1, faM2, faM3, faM4, faM5, faM6, faM7, faM8, faM9, faM10, faM11, faM12, faM13, faM14, faM15, faM16, faM17, faM18, faM19, faM20, faM21, faM22, faM23, faM24, faM25, faM26, faM27, faM28, faM29, faM30, faM31, faM32, faM33, faM34, faM35, faM36, faM37, faM38, faM39]
def falM1 : List (PySem.W.Frag → Bool) := [faM40, faM41, faM42, faM43, faM44, faM45, faM46, faM47, faM48, faM49, faM50, faM51, faM52, faM53, faM54, faM55, faM56, faM57, faM58, faM59, faM60, faM61, faM62, faM63, faM64, faM65, faM66, faM67, faM68, faM69, faM70, faM71, faM72, faM73, faM74, faM75, faM76, faM77, faM78, faM79]
def falM2 : List (PySem.W.Frag → Bool) := [faM80, faM81, faM82, faM83, faM84, faM85, faM86, faM87, faM88, faM89, faM90, faM91, faM92, faM93, faM94, faM95, faM96, faM97, faM98, faM99, faM100, faM101, faM102, faM103, faM104, faM105, faM106, faM107, faM108, faM109, faM110]
def falM : List (PySem.W.Frag → Bool) := falM0 ++ (falM1 ++ (falM2))
def fnlM0 : List He.FnD := [dM_lowest, dM_worth, dM_shared_bottom, dM_row_worth, dM_bottom_place, dM_raised, dM__law_flow, dM__law_whole, dM__law_low, dM__law_add, dM__law_mul, dM__law_div, dM__law_part, dM__law_size, dM__law_row_times, dM__law_settled, dM__law_times, dM__law_draw_sum, dM__law_worth, dM_law]
def fnlM : List He.FnD := fnlM0
def looM0 : List PySem.Str := [Str.ofString "gcd", Str.ofString "__name__", Str.ofString "MeadError", Str.ofString "NoFraction", Str.ofString "NoLetter", Str.ofString "lowest", Str.ofString "worth", Str.ofString "shared_bottom", Str.ofString "row_worth", Str.ofString "bottom_place", Str.ofString "raised", Str.ofString "_law_flow", Str.ofString "_law_whole", Str.ofString "_law_low", Str.ofString "_law_add", Str.ofString "_law_mul", Str.ofString "_law_div", Str.ofString "_law_part", Str.ofString "_law_size", Str.ofString "_law_row_times", Str.ofString "_law_settled", Str.ofString "_law_times", Str.ofString "_law_draw_sum", Str.ofString "_law_worth"]
def looM : List PySem.Str := looM0
def refsM (o : Obj) : List Addr := match o.data with
  | .func fd => He.refV fd.code
  | .cls cd => [cd.ns]
  | .dict _ _ => He.refsO o
  | _ => []
def layM (g : Addr → Option Obj) (as : List Addr) : List Addr := as.flatMap fun a => match g a with
  | some o => refsM o
  | none => []
def asM4 (g : Addr → Option Obj) (as : List Addr) : List Addr := as ++ layM g as
def asM3 (g : Addr → Option Obj) (as : List Addr) : List Addr := as ++ asM4 g (layM g as)
def asM2 (g : Addr → Option Obj) (as : List Addr) : List Addr := as ++ asM3 g (layM g as)
def asM (g : Addr → Option Obj) : List Addr := mainGlobals :: asM2 g (layM g [mainGlobals])
abbrev SayT : Type := List Bool × List He.FnV
def obsM (K : PySem.W.Frag) : SayT := (falM.map (fun f => f K), fnlM.map (fun d => He.fnObs K d.at_))
def valM : SayT := (falM.map (fun _ => true), fnlM.map He.FnD.val)
def hkM : PySem.W.Hook where
  α := SayT
  obs := fun s => obsM (He.frG s.heap.get? (asM s.heap.get?))
  val := fun _ => valM
  says := fun _ h => ∃ K : PySem.W.Frag, K.In h ∧ obsM K = valM
  of := fun _ _ e => ⟨_, He.frG_in, e⟩
  keeps := fun _ _ _ z k => match z with | ⟨K, hK, c⟩ => ⟨K, PySem.W.Frag.In.keeps hK k, c⟩
def obM (s : PySem.W.SharedT) : SayT := obsM (He.frG (HandSHeadRun.getT s) (asM (HandSHeadRun.getT s)))
theorem obM_eq (s : PySem.W.SharedT) : obM s = hkM.obs s.abs := by
  have e : HandSHeadRun.getT s = s.abs.heap.get? := funext (HandSHeadRun.getT_eq s)
  show obsM (He.frG (HandSHeadRun.getT s) (asM (HandSHeadRun.getT s))) = obsM (He.frG s.abs.heap.get? (asM s.abs.heap.get?))
  rw [e]
abbrev RowM : PySem.W.OpenRow := PySem.W.OpenLaw.row PySem.Challenge.rw_postmead_k06_letters_worth
theorem runM (w : World) : HandSHeadRun.RunEqI RowM (PySem.W.view RowM.prog [27]) hkM obM 9000 looM w := by
  unfold HandSHeadRun.RunEqI; kernel_rfl
theorem fctM {K : PySem.W.Frag} (c : falM.map (fun f => f K) = falM.map (fun _ => true)) {f : PySem.W.Frag → Bool} {j : Nat} (h : nthM falM j = some f) : f K = true := nthM_map (u := fun f => f K) (v := fun _ => true) c h
theorem fntM {K : PySem.W.Frag} (c : fnlM.map (fun d => He.fnObs K d.at_) = fnlM.map He.FnD.val) {d : He.FnD} {j : Nat} (h : nthM fnlM j = some d) : He.fnObs K d.at_ = d.val := nthM_map c h
section
variable {P : Program} {w : World} {K : PySem.W.Frag} {mg : Str → Option Value} {base : Heap}

/-! ### the row of numbers that the script makes -/
def rowOk (rs : List Int) : Prop := ∀ v ∈ rs, 0 ≤ v ∧ v < 1000000
theorem rowOk_nil : rowOk [] := fun _ h => by cases h
theorem rowOk_add {rs : List Int} {v : Int} (h : rowOk rs) (h0 : 0 ≤ v) (h1 : v < 1000000) : rowOk (rs ++ [v]) := fun x hx => by
  rcases List.mem_append.mp hx with q | q
  · exact h x q
  · rw [List.mem_singleton.mp q]
    exact ⟨h0, h1⟩
def sp_flow (K : PySem.W.Frag) : Sp := fun vs H Q _ => ∃ (a : Addr) (ns : List Int) (m : Int), vs = [.ref a, .int m] ∧ SqL K H a (ns.map V.int) ∧ ns.length ≤ 63 ∧ 0 ≤ m ∧ m ≤ 1000 ∧
  ∀ H' p (rs : List Int), Same H H' → H p = none → rs.length = m.toNat → rowOk rs → H' p = some (.lst (rs.map V.int)) → Q (.ref p) H'
def flowInv (a : Addr) (m : Int) (p : Addr) (H : Hp) : Nat → L2.St → Hp → Prop := fun i σ H' => ∃ (g : Int) (rs : List Int) (k c x : Option V),
  σ = [some (.ref a), some (.int m), some (.int g), some (.ref p), k, c, x] ∧ Same H H' ∧ H' p = some (.lst (rs.map V.int)) ∧ rs.length = i ∧ rowOk rs
theorem mod_in (x : Int) : 0 ≤ x % 1000000 ∧ x % 1000000 < 1000000 := ⟨Int.emod_nonneg _ (by decide), Int.emod_lt_of_pos _ (by decide)⟩
theorem flow_turn {a p : Addr} {m g z : Int} {H H' : Hp} {i : Nat} {rs : List Int} {k c x : Option V} (hs : Same H H') (hp : H p = none) (hrl : rs.length = i) (hro : rowOk rs) :
    flowInv a m p H (i + 1) [some (.ref a), some (.int m), some (.int g), some (.ref p), k, c, x] (upd H' p (.lst (rs.map V.int ++ [V.int (z % 1000000)]))) := by
  refine ⟨g, rs ++ [z % 1000000], k, c, x, rfl, same_put hs hp, ?_, by rw [List.length_append, hrl]; rfl, rowOk_add hro (mod_in z).1 (mod_in z).2⟩
  rw [upd_same, List.map_append]; rfl
theorem mod_at {ns : List Int} (h : 0 < ns.length) (k : Nat) : ∃ z, atI (ns.map V.int) ((k : Int) % (ns.length : Int)) = some (.int z) := by
  have hk : k % ns.length < ns.length := Nat.mod_lt _ h
  refine ⟨ns[k % ns.length], ?_⟩
  rw [← Int.natCast_emod]
  refine atI_nat ?_
  rw [List.getElem?_map, List.getElem?_eq_getElem hk]
  rfl
theorem ok__law_flow (T : Env K mg) : FnOk P w K mg base CX0 1 T.a__law_flow T.fd__law_flow ["_law_script", "_law_many"] (sp_flow K) := by
  refine T.F__law_flow.ok sc__law_flow (fun vs H Q E h => ?_) (fun cdv A outer s H vs Q E hr h => ?_)
  · obtain ⟨a, ns, m, rfl, _⟩ := h
    rfl
  · obtain ⟨a, ns, m, rfl, hS, hl, hm0, hm1, q⟩ := h
    refine ⟨_, (pss_cons (ps_set (i := 2) sc__law_flow.nd rfl (.inl rfl) pe_int)
 (C8.pss_cut (ps_if (PW.pt (pw_and (pt_cmpR op_gt (pe_callB (id := "len") call_len_seq (by rfl) T.m_len (by decide +kernel) (pa_cons (pv 0) pa_nil)) pe_int (nomark _)) (pw_and1 (pt_cmpR op_ge (pe_callB call_abs (by rfl) T.m_abs (by decide +kernel) (pa_cons (pe_ix ix_list (pv 0) pe_int (fun _ _ => rfl)) pa_nil)) (pe_op op_pow pe_int pe_int) (nomark _)))))
 (pss_one (ps_set (i := 2) sc__law_flow.nd rfl (.inl rfl) (pe_op op_sub (pe_callB call_abs (by rfl) T.m_abs (by decide +kernel) (pa_cons (pe_ix ix_list (pv 0) pe_int (fun _ _ => rfl)) pa_nil)) (pe_op op_pow pe_int pe_int))))
 pss_nil)
 (pss_cons (ps_set (i := 3) sc__law_flow.nd rfl (.inl rfl) (pe_lst pa_nil))
 (pss_cons (ps_for PassesOwn.never rfl (pi_range1 (by rfl) T.m_range (pa_cons (pv 1) pa_nil)) (pg_name (i := 4) sc__law_flow.nd rfl (.inl rfl))
 (pss_one (ps_if (pt_cmpR op_gt (pv 2) pe_int (nomark _))
 (pss_cons (ps_expr (pe_bm PySem.F.plainAttrs_list PySem.F.slot_list_append PySem.F.type_list_append mt_append (pv 3) (pa_cons (pe_op op_mod (pv 2) pe_int) pa_nil)))
 (pss_one (ps_set (i := 2) sc__law_flow.nd rfl (.inl rfl) (pe_op op_fdiv (pv 2) pe_int))))
 (pss_cons (ps_set (i := 5) sc__law_flow.nd rfl (.inl rfl) (pe_op op_add (pv 4) pe_int))
 (C8.pss_cut (ps_if (pt_cmpR op_gt (pe_callB (id := "len") call_len_seq (by rfl) T.m_len (by decide +kernel) (pa_cons (pv 0) pa_nil)) pe_int (nomark _))
 (pss_one (ps_set (i := 5) sc__law_flow.nd rfl (.inl rfl) (pe_ix ix_list (pv 0) (pe_op op_mod (pv 4) (pe_callB (id := "len") call_len_seq (by rfl) T.m_len (by decide +kernel) (pa_cons (pv 0) pa_nil))) (fun _ _ => rfl))))
 pss_nil)
 (pss_cons (ps_set (i := 6) sc__law_flow.nd rfl (.inl rfl) (pe_op op_mod (pe_op op_add (pe_op op_add (pe_op op_mulU (pv 5) pe_int) (pe_op op_mulU (pv 4) pe_int)) pe_int) pe_int))
 (pss_cons (ps_set (i := 6) sc__law_flow.nd rfl (.inl rfl) (pe_op op_mod (pe_op op_add (pe_op op_add (pe_op op_mulU (pv 6) pe_int) (pe_op op_mulU (pv 4) pe_int)) (pe_callB (id := "len") call_len_seq (by rfl) T.m_len (by decide +kernel) (pa_cons (pv 0) pa_nil))) pe_int))
 (pss_one (ps_expr (pe_bm PySem.F.plainAttrs_list PySem.F.slot_list_append PySem.F.type_list_append mt_append (pv 3) (pa_cons (pe_op op_mod (pe_op op_fdiv (pv 6) pe_int) pe_int) pa_nil)))))))))))
 (pss_one (ps_ret (pv 3))))))), ?_⟩
    have hlen : (ns.map V.int).length = ns.length := List.length_map _
    refine ⟨fun σ' H' => ∃ g : Int, σ' = [some (.ref a), some (.int m), some (.int g), none, none, none, none] ∧ H = H', ?_, ?_⟩
    · refine ⟨_, rfl, _, _, rfl, .inl hS, _, _, rfl, rfl, _, rfl, ite2 (fun hd => ?_) (fun _ => ⟨_, rfl, rfl⟩)⟩
      have h0 : 0 < ns.length := by
        have := of_decide_eq_true hd
        rw [hlen] at this
        omega
      obtain ⟨z, hz⟩ := mod_at h0 0
      have hz0 : atI (ns.map V.int) 0 = some (.int z) := by
        have e : ((0 : Nat) : Int) % (ns.length : Int) = 0 := by simp
        rw [e] at hz
        exact hz
      refine ⟨_, rfl, a, _, _, _, rfl, rfl, hS, hz0, _, rfl, _, _, rfl, rfl, ⟨by decide, by decide, by decide⟩, _, _, rfl, rfl, _, rfl, ?_⟩
      refine ite2 (fun _ => ?_) (fun _ => ⟨_, rfl, rfl⟩)
      exact ⟨_, rfl, a, _, _, _, rfl, rfl, hS, hz0, _, rfl, _, _, rfl, rfl, ⟨by decide, by decide, by decide⟩, _, _, rfl, rfl, _, rfl, rfl⟩
    · rintro _ _ ⟨g, rfl, rfl⟩
      refine ⟨Nat.zero_le _, fun p hp => ?_⟩
      refine ⟨_, rfl, m, rfl, by omega, by omega, for_range (lo := 0) (n := m.toNat) (flowInv a m p H) ⟨g, [], none, none, none, rfl, same_new hp, upd_same, rfl, rowOk_nil⟩ ?_ ?_⟩
      · rintro i σ H' hi ⟨g, rs, k, c, x, rfl, hs, hpl, hrl, hro⟩
        have hA := hs.seq hS
        have hsz : (rs.map V.int).length < sizeLine := by rw [List.length_map]; exact small1000 (by omega)
        refine ⟨_, rfl, _, _, rfl, rfl, _, rfl, ite2 (fun _ => ?_) (fun _ => ?_)⟩
        · refine ⟨_, rfl, .inl ⟨rfl, _, .inl (.inl hpl)⟩, _, rfl, _, _, rfl, rfl, (by show (0 : Int) < _; decide), p, _, _, rfl, rfl, hpl, hsz, ?_⟩
          refine ⟨_, rfl, _, _, rfl, rfl, ⟨by decide, by decide⟩, ?_⟩
          exact flow_turn hs hp hrl hro
        · refine ⟨_, rfl, _, _, rfl, rfl, ?_⟩
          refine ⟨fun σ' H2 => ∃ cell : Int, σ' = [some (.ref a), some (.int m), some (.int g), some (.ref p), some (.int (0 + (i : Int))), some (.int cell), x] ∧ H' = H2, ?_, ?_⟩
          · refine ⟨_, rfl, _, _, rfl, .inl hA, _, _, rfl, rfl, _, rfl, ite2 (fun hd => ?_) (fun _ => ⟨_, rfl, rfl⟩)⟩
            have h0 : 0 < ns.length := by
              have := of_decide_eq_true hd
              rw [hlen] at this
              omega
            obtain ⟨z, hz⟩ := mod_at h0 i
            refine ⟨_, rfl, _, rfl, _, rfl, _, _, rfl, .inl hA, _, _, rfl, rfl, (by rw [hlen]; omega), a, _, _, .int z, rfl, rfl, hA, ?_, ⟨z, rfl, rfl⟩⟩
            rw [hlen, Int.zero_add]
            exact hz
          · rintro _ _ ⟨cell, rfl, rfl⟩
            refine ⟨_, rfl, _, _, rfl, rfl, mulR (by decide) (by decide), _, rfl, _, _, rfl, rfl, mulR (by decide) (by decide), _, _, rfl, rfl, _, _, rfl, rfl, _, _, rfl, rfl, (by show (0 : Int) < _; decide), ?_⟩
            refine ⟨_, rfl, _, _, rfl, rfl, mulR (by decide) (by decide), _, rfl, _, _, rfl, rfl, mulR (by decide) (by decide), _, _, rfl, rfl, _, rfl, _, _, rfl, .inl hA, _, _, rfl, rfl, _, _, rfl, rfl, (by show (0 : Int) < _; decide), ?_⟩
            refine ⟨_, rfl, .inl ⟨rfl, _, .inl (.inl hpl)⟩, _, rfl, _, _, rfl, rfl, ⟨by decide, by decide⟩, _, _, rfl, rfl, (by show (0 : Int) < _; decide), p, _, _, rfl, rfl, hpl, hsz, ?_⟩
            exact flow_turn hs hp hrl hro
      · rintro σ H' ⟨g, rs, k, c, x, rfl, hs, hpl, hrl, hro⟩
        exact ⟨_, rfl, q H' p rs hs hp hrl hro hpl⟩

/-! ### sorting of tuples, an empty one among them -/
section
open PySem.SeqAt PySem.W PySem.Calls
theorem call_tuple_lt {A : Around} {s : Shared} {prog : Program} {w : World} {E : Value → Shared → Prop} {Q : Value → Shared → Prop} {l b : Addr} {items items2 : Array Value} {e r : Nat → Bool} (hl : s.heap.IsTuple l items) (hb : s.heap.IsTuple b items2)
    (he : ∀ j (h1 : j < items.size) (h2 : j < items2.size), EqAt A.in1 s items[j] items2[j] (e j)) (hr : ∀ j (h1 : j < items.size) (h2 : j < items2.size), e j = false → RcLt A.in1 s items[j] items2[j] (r j))
    (h : Q (.bool (firstLt e r (decide (items.size < items2.size)) (List.range (min items.size items2.size)))) s) : wpAny (model prog w) A (call (.builtin "tuple.__lt__") [.ref l, .ref b]) Q E s := by
  obtain ⟨⟨cls, dd, data, sl⟩, ho, hc, n, hd⟩ := id hl
  obtain ⟨⟨cls2, dd2, data2, sl2⟩, ho2, hc2, n2, hd2⟩ := id hb
  simp only at hc hd hc2 hd2
  subst hc hd hc2 hd2
  exact call_meets F.slot_tuple_lt ⟨_, ho, rfl⟩ F.entry_tuple_lt (F.args_tuple_lt_2 _ _) (PySem.SeqAt.tuple_ltAt l b items items2 n n2 dd dd2 sl sl2 e r) ⟨ho, ho2, he, hr, h⟩
theorem oneLt_tuple {prog : Program} {w : World} {A : Around} {E : Value → Shared → Prop} {s : Shared} {xs ys : List PyData} {a b : Value} {as bs : List Addr} {Q : Bool → Shared → Prop} (ra : Reads s.heap a (.tuple xs) as) (rb : Reads s.heap b (.tuple ys) bs) (h : alike (.tuple xs) (.tuple ys) = true)
    (hu : A.units + min (PyData.tuple xs).depth (PyData.tuple ys).depth < cLine) (hq : Q (dataLt (.tuple xs) (.tuple ys)) s) : wpAny (model prog w) A (oneLt' true a b) Q E s := by
  have hal : alikeAll xs ys = true := by simpa [alike] using h
  cases ra with
  | @tuple l o vs n _ as₁ h1 h2 h3 h4 =>
    cases rb with
    | @tuple l' o' vs' n' _ bs₁ k1 k2 k3 k4 =>
      have n1 : vs.size = xs.length := by simpa using ReadsAll.length _ _ _ h4
      have n2 : vs'.size = ys.length := by simpa using ReadsAll.length _ _ _ k4
      rw [dataLt_tuple, ← firstLt_toks xs ys hal, ← n1, ← n2] at hq
      rw [oneLt'_eq]
      simp only [if_true]
      refine wpAny_bind (wpAny_cRoomFor (room_here hu) ?_)
      refine wpAny_bind (wpAny_callSpecialIfBound?_slot (T := "tuple") ⟨_, h1, h2⟩ F.slot_tuple_lt (call_tuple_lt (e := pairEq xs ys) (r := fun j => dataLt (xs.getD j .none) (ys.getD j .none)) ⟨_, h1, h2, _, h3⟩ ⟨_, k1, k2, _, k3⟩ (fun j j1 j2 => ?_) (fun j j1 j2 hj => ?_) ?_))
      · have := eqAt_alikeAll xs ys A.in1 s vs.toList vs'.toList _ _ h4 k4 hal (room_in hu) j (by simpa using j1) (by simpa using j2)
        simpa using this
      · have := rcLt_alikeAll xs ys A.in1 s vs.toList vs'.toList _ _ h4 k4 hal (room_in hu) j (by simpa using j1) (by simpa using j2) hj
        simpa using this
      · exact wpAny_truthy_bool hq
theorem keyLt_general (x y : Value) : keyLt' general' x y = oneLt' false x y := rfl
def isE : PyData → Bool
  | .tuple [] => true
  | _ => false
theorem isE_iff (d : PyData) : isE d = true ↔ d = .tuple [] := by
  constructor
  · intro h
    unfold isE at h
    split at h
    · rfl
    · cases h
  · rintro rfl; rfl
/-- the first items of tuples, or none -/
theorem my_firsts {M : Model} {A : Around} {E : Value → Shared → Prop} {s : Shared} : ∀ {vs : List Value} {ds : List PyData}, EachIs (fun v d => ∃ as, Reads s.heap v d as) vs ds → (∀ d ∈ ds, ∃ l, d = .tuple l) →
    ∃ fs : List (Option Value), fs.map (·.isSome) = ds.map (fun d => !isE d) ∧ ∀ Q : List (Option Value) → Shared → Prop, Q fs s → wpAny M A (vs.mapM firstOfTuple') Q E s
  | _, _, .nil, _ => ⟨[], rfl, fun Q h => by rw [List.mapM_nil]; exact wpAny_pure h⟩
  | _, _, .cons (a := v) (as := vs) (b := d) (bs := ds) ⟨as, r⟩ t, ht => by
    obtain ⟨fs, h1, h2⟩ := my_firsts t fun d hd => ht d (List.mem_cons_of_mem _ hd)
    obtain ⟨l, rfl⟩ := ht d (List.mem_cons_self ..)
    cases r with
    | @tuple a o xs n _ _ ho hc hd hr =>
      refine ⟨xs[0]? :: fs, ?_, fun Q h => ?_⟩
      · have hl := ReadsAll.length _ _ _ hr
        rw [Array.length_toList] at hl
        have hq : (xs[0]?).isSome = !isE (PyData.tuple l) := by
          cases l with
          | nil =>
            have : xs[0]? = none := Array.getElem?_eq_none (by rw [hl]; simp)
            rw [this]
            rfl
          | cons x l =>
            have hlt : 0 < xs.size := by rw [hl]; simp
            rw [Array.getElem?_eq_getElem hlt]
            rfl
        rw [List.map_cons, List.map_cons, h1, hq]
      · rw [List.mapM_cons]
        refine wpAny_bind ?_
        rw [kas_first_eq]
        refine wpAny_bind (Looks.here (show Looks M s.heap (typeOf (.ref a)) o.cls from (Looks.ld ho).andThen .now) ?_)
        rw [hc, if_neg (by first | decide | simp)]
        refine wpAny_bind (listItems_at ho hd (wpAny_pure ?_))
        exact wpAny_bind (h2 (fun bs s' => wpAny M A (pure (xs[0]? :: bs)) Q E s') (wpAny_pure h))
/-- tuples that read as alike data can be sorted, also where one is empty -/
theorem SortsAt.tup {prog : Program} {w : World} {A : Around} {s : Shared} {vs : List Value} {ds : List PyData} (e : EachIs (fun v d => ∃ as, Reads s.heap v d as) vs ds) (hal : AllAlike ds) (hk : ∀ d ∈ ds, ∃ l, d = .tuple l) (hu : ∀ d, d ∈ ds → A.units + d.depth < cLine) :
    SortsAt prog w A s (dataKind s.heap ds) vs := by
  by_cases hne : ∀ d ∈ ds, d ≠ .tuple []
  · refine SortsAt.data e hal (.inl fun d hd => ?_) hu
    obtain ⟨l, rfl⟩ := hk d hd
    cases l with
    | nil => exact absurd rfl (hne _ hd)
    | cons x r => exact ⟨x, r, rfl⟩
  have room : ∀ {d d' : PyData}, d ∈ ds → A.units + min d.depth d'.depth < cLine := fun {d d'} hd => Nat.lt_of_le_of_lt (Nat.add_le_add_left (Nat.min_le_left _ _) _) (hu d hd)
  refine ⟨fun v hv => ?_, ?_⟩
  · obtain ⟨d, hd, as, r⟩ := e.left v hv
    exact ⟨_, dataKind_some hal hd r⟩
  -- both kinds ask the tuples' own order
  have gen : PyProof.Rows.H.LtAt prog w A s (dataKind s.heap ds) general' := fun E x y a b Q ha hb hq => by
    obtain ⟨d, as, hd, ra, rfl⟩ := dataKind_inv ha
    obtain ⟨d', as', hd', rb, rfl⟩ := dataKind_inv hb
    rw [keyLt_general]
    obtain ⟨l, rfl⟩ := hk d hd
    exact oneLt_alike (fun h => absurd h Bool.false_ne_true) ra rb (hal _ hd _ hd') (by simp) (room hd) hq
  have one : PyProof.Rows.H.LtAt prog w A s (dataKind s.heap ds) oneType' := fun E x y a b Q ha hb hq => by
    obtain ⟨d, as, hd, ra, rfl⟩ := dataKind_inv ha
    obtain ⟨d', as', hd', rb, rfl⟩ := dataKind_inv hb
    rw [keyLt'_oneType]
    obtain ⟨l, rfl⟩ := hk d hd
    obtain ⟨l', rfl⟩ := hk d' hd'
    exact oneLt_tuple ra rb (hal _ hd _ hd') (room hd) hq
  have notAll : ∀ fs : List (Option Value), fs.map (·.isSome) = ds.map (fun d => !isE d) → (fs.toArray.all fun x => x.isSome) = false := fun fs hf => by
    rw [List.all_toArray]
    have h1 : fs.all (fun x => x.isSome) = (fs.map (·.isSome)).all id := by rw [List.all_map]; rfl
    rw [h1, hf, List.all_map]
    cases hc : ds.all (id ∘ fun d => !isE d) with
    | false => rfl
    | true =>
      refine absurd (fun d hd he => ?_) hne
      have h2 : (!isE d) = true := List.all_eq_true.mp hc d hd
      rw [(isE_iff d).mpr he] at h2
      cases h2
  cases ds with
  | nil => exact absurd (fun d hd => absurd hd (by simp)) hne
  | cons d₀ ds₀ =>
    by_cases h0 : d₀ = .tuple []
    · refine ⟨oneType', one, fun h2 E Q hq => ?_⟩
      obtain ⟨fs, hf, hm⟩ := my_firsts (M := model prog w) (A := A) (E := E) e hk
      rw [kat_kind_eq, List.mapM_toArray, map_eq_pure_bind]
      refine wpAny_bind (wpAny_bind (hm _ (wpAny_pure ?_)))
      rw [if_neg (by rw [notAll fs hf]; exact Bool.false_ne_true)]
      have hf0 : (fs.toArray[0]?.bind id).isSome = false := by
        cases fs with
        | nil => simp at hf
        | cons f fs =>
          rw [List.map_cons, List.map_cons] at hf
          have := (List.cons.inj hf).1
          rw [h0] at this
          have this : f.isSome = false := this
          simpa using this
      rw [if_neg (by rw [hf0]; exact Bool.false_ne_true)]
      rw [oneTypeOnly'_eq, List.mapM_toArray, map_eq_pure_bind]
      have hT : ∀ v ∈ vs, Looks (model prog w) s.heap (typeOf v) (Value.type "tuple") := fun v hv => by
        obtain ⟨d, hd, as, r⟩ := e.left v hv
        obtain ⟨l, rfl⟩ := hk d hd
        exact looks_reads r
      refine wpAny_bind (wpAny_bind (wpAny_bind (kas_mapM (r := Value.type "tuple") _ (fun v hv Q' hq => (hT v hv).here hq) (wpAny_pure ?_))))
      obtain ⟨v₁, vr, rfl⟩ : ∃ v₁ vr, vs = v₁ :: vr := by
        cases e with
        | cons _ _ => exact ⟨_, _, rfl⟩
      have hall : ((List.map (fun _ => Value.type "tuple") (v₁ :: vr)).toArray.all fun x => x == Value.type "tuple") = true := by
        simp only [List.all_toArray, List.all_map, List.all_eq_true]
        intro _ _
        exact beq_self_eq_true _
      have hh : (List.map (fun _ => Value.type "tuple") (v₁ :: vr)).toArray[0]? = some (Value.type "tuple") := by simp
      rw [hh]
      simp only [hall, if_true]
      exact wpAny_pure (wpAny_pure hq)
    · refine ⟨general', gen, fun h2 E Q hq => ?_⟩
      obtain ⟨fs, hf, hm⟩ := my_firsts (M := model prog w) (A := A) (E := E) e hk
      rw [kat_kind_eq, List.mapM_toArray, map_eq_pure_bind]
      refine wpAny_bind (wpAny_bind (hm _ (wpAny_pure ?_)))
      rw [if_neg (by rw [notAll fs hf]; exact Bool.false_ne_true)]
      have hf0 : (fs.toArray[0]?.bind id).isSome = true := by
        cases fs with
        | nil => simp at hf
        | cons f fs =>
          rw [List.map_cons, List.map_cons] at hf
          have := (List.cons.inj hf).1
          have h3 : isE d₀ = false := by
            cases hq : isE d₀ with
            | false => rfl
            | true => exact absurd ((isE_iff d₀).mp hq) h0
          rw [h3] at this
          simpa using this
      rw [if_pos hf0]
      exact wpAny_pure hq
/-- xs.sort(), the items tuples that read as alike data -/
theorem list_sort_tup {prog : Program} {w : World} {A : Around} {E : Value → Shared → Prop} {s : Shared} {β : Type} {vs : List Value} {bs : List β} {enc : β → PyData} {R : Value → β → Prop} {a : Addr} {n : Nat} {Q : Value → Shared → Prop} (ho : s.heap.get? a = some (seqObj "list" vs.toArray n)) (e : EachIs R vs bs)
    (er : EachIs (fun v b => ∃ as, Reads s.heap v (enc b) as ∧ a ∉ as) vs bs) (hal : AllAlike (bs.map enc)) (hk : ∀ b ∈ bs, ∃ l, enc b = .tuple l) (hL : bs.length ≤ sizeLine)
    (hu : ∀ b, b ∈ bs → A.units + 1 + (enc b).depth < cLine) (h : ∀ out, out.length = bs.length → EachIs R out (bs.mergeSort (dataLe false enc)) → Q .none { s with heap := sortedHeap s.heap a vs (List.toArray out) }) :
    wpAny (model prog w) A (call (.builtin "list.sort") [.ref a]) Q E s := by
  have er' : EachIs (fun v b => ∃ as, Reads (sortingHeap s.heap a vs) v (enc b) as) vs bs := each_keepBut (h' := sortingHeap s.heap a vs) (fun _ _ hb q => sortingHeap_old hb q) (fun o q => by rw [ho] at q; rw [← Option.some.inj q]) hal er
  have hk' : ∀ d ∈ bs.map enc, ∃ l, d = .tuple l := fun d hd => by
    obtain ⟨b, hb, rfl⟩ := List.mem_map.mp hd
    exact hk b hb
  refine wpAny_call_entry slot_list_sort ⟨_, ho, rfl⟩ entry_list_sort (list_sort_vals (κ := dataKind (sortingHeap s.heap a vs) (bs.map enc)) ho (SortsAt.tup (s := { s with heap := sortingHeap s.heap a vs }) (each_map (R := fun v d => ∃ as, Reads (sortingHeap s.heap a vs) v d as) enc er') hal hk' (bound_map hu)) (by rw [e.length]; exact hL) ⟨.none, rfl, ?_⟩) (args_list_sort _)
  exact h _ (by rw [sortVals_length false rfl]; exact e.length) (sortVals_data false e er' hal)
end

/-! ### nested keys: ints, and tuples of such -/
section
open PySem.W PySem.Calls
mutual
inductive Nk (H : Hp) : NestedKey → V → Prop
  | num (i : Int) : Nk H (.num i) (.int i)
  | tup {a : Addr} {xs : List V} {ks : List NestedKey} : H a = some (.tup xs) → NkAll H ks xs → Nk H (.tup ks) (.ref a)
inductive NkAll (H : Hp) : List NestedKey → List V → Prop
  | nil : NkAll H [] []
  | cons {k : NestedKey} {v : V} {ks : List NestedKey} {vs : List V} : Nk H k v → NkAll H ks vs → NkAll H (k :: ks) (v :: vs)
end
mutual
def kdat : NestedKey → PyData
  | .none => .none
  | .num i => .int i
  | .text x => .str x
  | .tup l => .tuple (kdats l)
def kdats : List NestedKey → List PyData
  | [] => []
  | k :: l => kdat k :: kdats l
end
mutual
theorem Nk.mono {H H' : Hp} (s : Same H H') : ∀ (k : NestedKey) (v : V), Nk H k v → Nk H' k v
  | .num _, _, h => by cases h; exact .num _
  | .tup ks, _, h => by
    cases h with
    | tup e r => exact .tup (s _ _ e) (NkAll.mono s ks _ r)
  | .none, _, h => by cases h
  | .text _, _, h => by cases h
theorem NkAll.mono {H H' : Hp} (s : Same H H') : ∀ (ks : List NestedKey) (vs : List V), NkAll H ks vs → NkAll H' ks vs
  | [], _, h => by cases h; exact .nil
  | k :: ks, _, h => by
    cases h with
    | cons a b => exact .cons (Nk.mono s k _ a) (NkAll.mono s ks _ b)
end
mutual
theorem nkTup {H H' : Hp} (s : ∀ c zs, H c = some (.tup zs) → H' c = some (.tup zs)) : ∀ (k : NestedKey) (v : V), Nk H k v → Nk H' k v
  | .num _, _, h => by cases h; exact .num _
  | .tup ks, _, h => by
    cases h with
    | tup e r => exact .tup (s _ _ e) (nkTupAll s ks _ r)
  | .none, _, h => by cases h
  | .text _, _, h => by cases h
theorem nkTupAll {H H' : Hp} (s : ∀ c zs, H c = some (.tup zs) → H' c = some (.tup zs)) : ∀ (ks : List NestedKey) (vs : List V), NkAll H ks vs → NkAll H' ks vs
  | [], _, h => by cases h; exact .nil
  | k :: ks, _, h => by
    cases h with
    | cons a b => exact .cons (nkTup s k _ a) (nkTupAll s ks _ b)
end
mutual
theorem Nk.is {P : Program} {w : World} {H : Hp} {h : Heap} (ok : HOk P w H h) : ∀ (k : NestedKey) (v : V) (u : Value), Nk H k v → RelV v u → NestedIs h k u
  | .num i, _, _, x, r => by
    cases x
    obtain ⟨t, rfl⟩ := r
    exact .int i t
  | .tup ks, _, _, x, r => by
    cases x with
    | @tup a xs _ e q =>
      cases r
      obtain ⟨_, its, rv, o, h1, h2, n, h3⟩ := (show ObjOk P w H h a (.tup xs) from ok a _ e)
      exact .tup h1 h2 h3 (by simpa using NkAll.is ok ks _ _ q rv)
  | .none, _, _, x, _ => by cases x
  | .text _, _, _, x, _ => by cases x
theorem NkAll.is {P : Program} {w : World} {H : Hp} {h : Heap} (ok : HOk P w H h) : ∀ (ks : List NestedKey) (vs : List V) (us : List Value), NkAll H ks vs → Vals vs us → NestedAll h ks us
  | [], _, _, x, r => by cases x; cases r; exact .nil
  | k :: ks, _, _, x, r => by
    cases x with
    | cons a b =>
      cases r with
      | cons r1 r2 => exact .cons (Nk.is ok k _ _ a r1) (NkAll.is ok ks _ _ b r2)
end
mutual
theorem Nk.dp {K : PySem.W.Frag} {H : Hp} : ∀ (k : NestedKey) (v : V), Nk H k v → Dp K H v (kdat k)
  | .num i, _, x => by cases x; exact .int i
  | .tup ks, _, x => by
    cases x with
    | tup e q => exact .tup (.inl (.inl e)) (NkAll.dp ks _ q)
  | .none, _, x => by cases x
  | .text _, _, x => by cases x
theorem NkAll.dp {K : PySem.W.Frag} {H : Hp} : ∀ (ks : List NestedKey) (vs : List V), NkAll H ks vs → DpAll K H vs (kdats ks)
  | [], _, x => by cases x; exact .nil
  | k :: ks, _, x => by
    cases x with
    | cons a b => exact .cons (Nk.dp k _ a) (NkAll.dp ks _ b)
end
mutual
/-- it reads as its datum, off no list -/
theorem Nk.reads {P : Program} {w : World} {H : Hp} {h : Heap} (ok : HOk P w H h) : ∀ (k : NestedKey) (v : V) (u : Value), Nk H k v → RelV v u → Reads h u (kdat k) []
  | .num i, _, _, x, r => by
    cases x
    obtain ⟨t, rfl⟩ := r
    exact .int i t
  | .tup ks, _, _, x, r => by
    cases x with
    | @tup a xs _ e q =>
      cases r
      obtain ⟨_, its, rv, o, h1, h2, n, h3⟩ := (show ObjOk P w H h a (.tup xs) from ok a _ e)
      exact .tuple h1 h2 h3 (by simpa using NkAll.reads ok ks _ _ q rv)
  | .none, _, _, x, _ => by cases x
  | .text _, _, _, x, _ => by cases x
theorem NkAll.reads {P : Program} {w : World} {H : Hp} {h : Heap} (ok : HOk P w H h) : ∀ (ks : List NestedKey) (vs : List V) (us : List Value), NkAll H ks vs → Vals vs us → ReadsAll h us (kdats ks) []
  | [], _, _, x, r => by cases x; cases r; exact .nil
  | k :: ks, _, _, x, r => by
    cases x with
    | cons a b =>
      cases r with
      | cons r1 r2 => exact .cons (Nk.reads ok k _ _ a r1) (NkAll.reads ok ks _ _ b r2)
end
/-! ### a dict whose keys are such tuples, its values ints -/
abbrev Ent := NestedKey × Addr × Value
def kdO (P : Program) (w : World) (a : Addr) (xs : List Ent) : HO := .ext fun h => ∃ o es ep, h.get? a = some o ∧ o.ExactDict ∧ o.data = .dict es ep ∧ es.toList = xs.map (entryOfKey (nestedKind P w))
theorem kdO_ok {P : Program} {w : World} {H : Hp} {h : Heap} {a : Addr} {xs : List Ent} {o : Obj} {es : Array DictEntry} {ep : Nat} (h1 : h.get? a = some o) (h2 : o.ExactDict) (h3 : o.data = .dict es ep) (h4 : es.toList = xs.map (entryOfKey (nestedKind P w))) : ObjOk P w H h a (kdO P w a xs) :=
  ⟨⟨o, es, ep, h1, h2, h3, h4⟩, ⟨o, h1⟩, fun _ _ x k => let ⟨o, es, ep, h1, r⟩ := x; ⟨o, es, ep, k o h1, r⟩⟩
def EntOk (H : Hp) (p : NestedKey × Int) (q : Ent) : Prop := p.1 = q.1 ∧ Nk H q.1 (.ref q.2.1) ∧ q.1.depth ≤ 8 ∧ ∃ t, q.2.2 = .int p.2 t
/-- at d stands a dict of the pairs kvs -/
structure DN (P : Program) (w : World) (H : Hp) (d : Addr) (kvs : List (NestedKey × Int)) : Prop where
  ex : ∃ xs : List Ent, H d = some (kdO P w d xs) ∧ Paired (EntOk H) kvs xs
  nd : (kvs.map (·.1)).Nodup
  nm : (d == sysModules) = false
  sm : kvs.length ≤ 100000
theorem EntOk.mono {H H' : Hp} (s : Same H H') {p : NestedKey × Int} {q : Ent} (h : EntOk H p q) : EntOk H' p q := ⟨h.1, Nk.mono s _ _ h.2.1, h.2.2⟩
theorem DN.mono {P : Program} {w : World} {H H' : Hp} {d : Addr} {kvs : List (NestedKey × Int)} (s : Same H H') (x : DN P w H d kvs) : DN P w H' d kvs := by
  obtain ⟨⟨xs, h1, h2⟩, nd, nm, sm⟩ := x
  exact ⟨⟨xs, s _ _ h1, L2.Paired.mapP h2 fun _ _ h => h.mono s⟩, nd, nm, sm⟩
theorem paired_keys {H : Hp} : ∀ {kvs : List (NestedKey × Int)} {xs : List Ent}, Paired (EntOk H) kvs xs → kvs.map (·.1) = xs.map (·.1)
  | _, _, .nil => rfl
  | _, _, .cons h t => by rw [List.map_cons, List.map_cons, h.1, paired_keys t]
theorem DN.dict {P : Program} {w : World} {H : Hp} {h : Heap} {d : Addr} {kvs : List (NestedKey × Int)} (ok : HOk P w H h) (x : DN P w H d kvs) :
    ∃ xs : List Ent, H d = some (kdO P w d xs) ∧ Paired (EntOk H) kvs xs ∧ h.DictOfH (nestedKind P w) d xs := by
  obtain ⟨⟨xs, h1, h2⟩, nd, nm, sm⟩ := x
  obtain ⟨⟨o, es, ep, g1, g2, g3, g4⟩, _⟩ := (show ObjOk P w H h d (kdO P w d xs) from ok d _ h1)
  refine ⟨xs, h1, h2, o, es, ep, g1, g2, g3, g4, fun y hy => ?_, by rw [← paired_keys h2]; exact nd⟩
  have all : ∀ {l : List (NestedKey × Int)} {m : List Ent}, Paired (EntOk H) l m → ∀ y ∈ m, (nestedKind P w).is h y.1 y.2.1 := by
    intro l m q
    induction q with
    | nil => intro y hy; cases hy
    | @cons p q ps qs hq t ih =>
      intro y hy
      rcases List.mem_cons.mp hy with e | hy
      · subst e
        exact ⟨Nk.is ok _ _ _ hq.2.1 rfl, hq.2.2.1⟩
      · exact ih y hy
  exact all h2 y hy
def lookN (kvs : List (NestedKey × Int)) (k : NestedKey) : Option Int := (kvs.find? fun p => decide (p.1 = k)).map (·.2)
def putN (kvs : List (NestedKey × Int)) (k : NestedKey) (n : Int) : List (NestedKey × Int) := if (lookN kvs k).isSome then kvs.map (fun p => if p.1 = k then (p.1, n) else p) else kvs ++ [(k, n)]
theorem look_at {H : Hp} (k : NestedKey) : ∀ {kvs : List (NestedKey × Int)} {xs : List Ent}, Paired (EntOk H) kvs xs → (∀ n, lookN kvs k = some n → ∃ b t, atKey xs k = some (b, .int n t)) ∧ (lookN kvs k = none → atKey xs k = none)
  | _, _, .nil => ⟨(fun _ h => nomatch h), fun _ => rfl⟩
  | _, _, .cons (a := p) (b := q) (l₁ := ps) (l₂ := qs) h t => by
    have ih := look_at k t
    by_cases e : p.1 = k
    · have e2 : q.1 = k := h.1.symm.trans e
      have a1 : lookN (p :: ps) k = some p.2 := by unfold lookN; rw [List.find?_cons_of_pos (by simp [e])]; rfl
      have a2 : atKey (q :: qs) k = some q.2 := by unfold atKey; rw [List.find?_cons_of_pos (by simp [e2])]; rfl
      obtain ⟨t', ht⟩ := h.2.2.2
      refine ⟨fun n hn => ?_, fun hn => ?_⟩
      · rw [a1] at hn
        cases hn
        exact ⟨q.2.1, t', by rw [a2]; rw [← ht]⟩
      · rw [a1] at hn; cases hn
    · have e2 : ¬ q.1 = k := fun z => e (h.1.trans z)
      have a1 : lookN (p :: ps) k = lookN ps k := by unfold lookN; rw [List.find?_cons_of_neg (by simp [e])]
      have a2 : atKey (q :: qs) k = atKey qs k := by unfold atKey; rw [List.find?_cons_of_neg (by simp [e2])]
      rw [a1, a2]
      exact ih
theorem lookN_none {kvs : List (NestedKey × Int)} {k : NestedKey} (h : lookN kvs k = none) : k ∉ kvs.map (·.1) := fun hm => by
  obtain ⟨p, hp, rfl⟩ := List.mem_map.mp hm
  unfold lookN at h
  rw [Option.map_eq_none_iff, List.find?_eq_none] at h
  exact h p hp (by simp)
theorem putN_keys (kvs : List (NestedKey × Int)) (k : NestedKey) (n : Int) : (putN kvs k n).map (·.1) = if (lookN kvs k).isSome then kvs.map (·.1) else kvs.map (·.1) ++ [k] := by
  unfold putN
  split
  · rw [List.map_map]
    refine List.map_congr_left fun p _ => ?_
    show (if p.1 = k then (p.1, n) else p).1 = p.1
    split <;> rfl
  · rw [List.map_append]; rfl
theorem putN_nodup {kvs : List (NestedKey × Int)} {k : NestedKey} {n : Int} (h : (kvs.map (·.1)).Nodup) : ((putN kvs k n).map (·.1)).Nodup := by
  rw [putN_keys]
  split
  · exact h
  · rename_i hn
    refine List.nodup_append.mpr ⟨h, by simp, fun a ha b hb e => ?_⟩
    rw [List.mem_singleton] at hb
    subst hb e
    exact lookN_none (by simpa using hn) ha
theorem putN_len (kvs : List (NestedKey × Int)) (k : NestedKey) (n : Int) : (putN kvs k n).length ≤ kvs.length + 1 := by
  unfold putN
  split
  · rw [List.length_map]; omega
  · rw [List.length_append]; simp
theorem paired_app {α β : Type} {F : α → β → Prop} : ∀ {a : List α} {b : List β} {c : List α} {d : List β}, Paired F a b → Paired F c d → Paired F (a ++ c) (b ++ d)
  | _, _, _, _, .nil, h => h
  | _, _, _, _, .cons x r, h => .cons x (paired_app r h)
theorem paired_put {H : Hp} {k : NestedKey} {n : Int} {t : Tok} : ∀ {kvs : List (NestedKey × Int)} {xs : List Ent}, Paired (EntOk H) kvs xs → Paired (EntOk H) (kvs.map fun p => if p.1 = k then (p.1, n) else p) (xs.map (putAt k (.int n t)))
  | _, _, .nil => .nil
  | _, _, .cons (a := p) (b := q) h r => by
    refine .cons ?_ (paired_put r)
    by_cases e : p.1 = k
    · have e2 : q.1 = k := h.1.symm.trans e
      show EntOk H (if p.1 = k then (p.1, n) else p) (if q.1 = k then (q.1, q.2.1, .int n t) else q)
      rw [if_pos e, if_pos e2]
      exact ⟨h.1, h.2.1, h.2.2.1, t, rfl⟩
    · have e2 : ¬ q.1 = k := fun z => e (h.1.trans z)
      show EntOk H (if p.1 = k then (p.1, n) else p) (if q.1 = k then (q.1, q.2.1, .int n t) else q)
      rw [if_neg e, if_neg e2]
      exact h
theorem DN.put {P : Program} {w : World} {H : Hp} {d b : Addr} {kvs : List (NestedKey × Int)} {xs : List Ent} {k : NestedKey} {n : Int} {t : Tok} (x : DN P w H d kvs) (h2 : Paired (EntOk H) kvs xs) (hd : ∃ ys, H d = some (kdO P w d ys)) (hb : Nk H k (.ref b)) (hk : k.depth ≤ 8) (hsm : kvs.length < 100000) :
    DN P w (upd H d (kdO P w d (storedH xs k b (.int n t)))) d (putN kvs k n) := by
  obtain ⟨ys, hd⟩ := hd
  have km : ∀ c zs, H c = some (.tup zs) → (upd H d (kdO P w d (storedH xs k b (.int n t)))) c = some (.tup zs) := fun c zs e => by
    rw [upd_ne (ne_of e hd (fun z => nomatch z))]
    exact e
  refine ⟨⟨storedH xs k b (.int n t), upd_same, ?_⟩, putN_nodup x.nd, x.nm, Nat.le_trans (putN_len _ _ _) hsm⟩
  have base : Paired (EntOk H) (putN kvs k n) (storedH xs k b (.int n t)) := by
    have l := look_at k h2
    unfold putN storedH
    cases e : lookN kvs k with
    | some m =>
      obtain ⟨b', t', e'⟩ := l.1 m e
      rw [e']
      exact paired_put h2
    | none =>
      rw [l.2 e]
      exact paired_app h2 (.cons ⟨rfl, hb, hk, t, rfl⟩ .nil)
  exact L2.Paired.mapP base fun p q h => ⟨h.1, nkTup km _ _ h.2.1, h.2.2⟩
end

/-! ### the rules -/
section
open PySem.W PySem.Calls
variable {X : Cx} {o e f i value : Expr} {td ty tx tv : TE}
/-- {} -/
def tDNewN (P : Program) (w : World) : TE := fun _ H Q => ∀ p, H p = none → (p == sysModules) = false → Q (.ref p) (upd H p (kdO P w p []))
theorem pe_dnewN {P : Program} {w : World} (hP : X.prog = P) (hW : X.w = w) {pos : Pos} : PE X (.Dict [] [] pos) (tDNewN P w) := by
  subst hP hW
  exact ⟨fun pins s σ H Q I h => wpAny_Dict_empty ⟨.ref s.heap.objs.size, _, I.laid (a := s.heap.objs.size) (o := kdO X.prog X.w s.heap.objs.size []) (t' := s.toks) (fun _ _ q => Heap.get?_push_of_some _ q) (Nat.le_refl _)
    (kdO_ok (xs := []) (Heap.get?_push_size _ rfl) ⟨rfl, rfl, rfl⟩ rfl rfl), rfl, h _ (I.hok.fresh (Nat.le_refl _)) (beq_eq_false_iff_ne.mpr (Nat.ne_of_gt I.big))⟩⟩
theorem dn_new {P : Program} {w : World} {H : Hp} {p : Addr} (h : (p == sysModules) = false) : DN P w (upd H p (kdO P w p [])) p [] := ⟨⟨[], upd_same, .nil⟩, List.nodup_nil, h, Nat.zero_le _⟩
theorem nroom {A : Around} (hu : A.units + 64 < cLine) {P : Program} {w : World} : (nestedKind P w).room A.in1 := by
  show A.in1.units + 8 < cLine
  have : A.in1.units = A.units + 1 := rfl
  omega
theorem nroom0 {A : Around} (hu : A.units + 64 < cLine) {P : Program} {w : World} : (nestedKind P w).room A := by
  show A.units + 8 < cLine
  omega
theorem dn_at {pins : List (Addr × Obj)} {σ : L2.St} {H : Hp} {s : Shared} {a : Addr} {kvs : List (NestedKey × Int)} (I : Inv X pins σ H s) (d : DN X.prog X.w H a kvs) :
    s.TypeIs (.ref a) "dict" ∧ (∀ b, Value.ref a = .ref b → ∃ ob, s.heap.get? b = some ob ∧ ob.dict = none) := by
  obtain ⟨xs, _, _, o, es, ep, h1, h2, _⟩ := d.dict I.hok
  refine ⟨⟨o, h1, h2.1⟩, fun b q => ?_⟩
  cases q
  exact ⟨o, h1, h2.2.1⟩
/-- d.get(k, n) -/
def tGetN (P : Program) (w : World) (td ty tx : TE) : TE := fun σ H Q => td σ H fun x H1 => ∃ a kvs, x = .ref a ∧ DN P w H1 a kvs ∧ ty σ H1 fun y H2 => tx σ H2 fun z H3 => ∃ kvs' k b n, DN P w H3 a kvs' ∧ y = .ref b ∧ Nk H3 k (.ref b) ∧ k.depth ≤ 8 ∧ z = .int n ∧ Q (.int ((lookN kvs' k).getD n)) H3
theorem pe_getN {P : Program} {w : World} (hP : X.prog = P) (hW : X.w = w) {apos cpos : Pos} (hu : X.A.units + 64 < cLine) (ho : PE X o td) (he : PE X e ty) (hf : PE X f tx) (m : M2 X o "get" apos e f cpos) : PE X (.Call (.Attribute o "get" apos) [e, f] [] cpos) (tGetN P w td ty tx) := by
  subst hP hW
  refine ⟨fun pins s σ H Q I h => ?_⟩
  refine wpAny_Call_method m.base m.few m.line PySem.F.plainAttrs_dict PySem.F.slot_dict_get PySem.F.type_dict_get (thn (ho.run pins s σ H _ I h) fun u s1 ⟨x, H1, I1, rx, a, kvs, ex, d, q1⟩ => ?_)
  subst ex
  obtain rfl : u = Value.ref a := rx
  obtain ⟨t1, t2⟩ := dn_at I1 d
  refine ⟨t1, t2, ?_⟩
  rw [m.trees]
  refine Calls.callWith_builtin rfl (Calls.evalArgs_plain (Calls.spliced_cons (thn (he.run pins s1 σ H1 _ I1 q1) fun iv s2 ⟨y, H2, I2, ry, q2⟩ =>
    Calls.spliced_cons (thn (hf.run pins s2 σ H2 _ I2 q2) fun fv s3 ⟨z, H3, I3, rz, kvs', k, b, n, d3, ey, hb, hk, ez, q3⟩ => Calls.spliced_nil ?_))))
  subst ey ez
  obtain rfl : iv = Value.ref b := ry
  obtain ⟨t, rfl⟩ := rz
  obtain ⟨xs, _, hp, dd⟩ := d3.dict I3.hok
  refine call_meetsIn PySem.F.slot_dict_get dd.typeIs PySem.F.entry_dict_get (PySem.F.args_dict_get_3 _ _ _) (meetsH_dict_get_default (nestedKind X.prog X.w) a b d3.nm (.int n t)) ⟨nroom hu, k, xs, ⟨Nk.is I3.hok _ _ _ hb rfl, hk⟩, dd, ?_⟩
  have l := look_at k hp
  cases el : lookN kvs' k with
  | some m =>
    rw [el] at q3
    obtain ⟨b', t', e'⟩ := l.1 m el
    rw [e']
    exact ⟨.int m, H3, I3.tok _, ⟨t', rfl⟩, q3⟩
  | none =>
    rw [el] at q3
    rw [l.2 el]
    exact ⟨.int n, H3, I3.tok _, ⟨t, rfl⟩, q3⟩
/-- d[k] -/
def tItemN (P : Program) (w : World) (td ty : TE) : TE := fun σ H Q => td σ H fun x H1 => ty σ H1 fun y H2 => ∃ a kvs k b n, x = .ref a ∧ DN P w H2 a kvs ∧ y = .ref b ∧ Nk H2 k (.ref b) ∧ k.depth ≤ 8 ∧ lookN kvs k = some n ∧ Q (.int n) H2
theorem pe_itemN {P : Program} {w : World} (hP : X.prog = P) (hW : X.w = w) {pos : Pos} (hu : X.A.units + 64 < cLine) (ho : PE X o td) (hi : PE X i ty) (hs : NoSl i) : PE X (.Subscript o i pos) (tItemN P w td ty) := by
  subst hP hW
  refine ⟨fun pins s σ H Q I h => ?_⟩
  refine subD_of PySem.F.slot_dict_getitem.lookup hs (thn (ho.run pins s σ H _ I h) fun u s1 ⟨x, H1, I1, rx, q1⟩ => thn (hi.run pins s1 σ H1 _ I1 q1) fun iv s2 ⟨y, H2, I2, ry, a, kvs, k, b, n, ex, d, ey, hb, hk, l, q2⟩ => ?_)
  subst ex ey
  obtain rfl : u = Value.ref a := rx
  obtain rfl : iv = Value.ref b := ry
  obtain ⟨xs, _, hp, dd⟩ := d.dict I2.hok
  obtain ⟨b', t', e'⟩ := (look_at k hp).1 n l
  exact ⟨(dn_at I2 d).1, wpAny_getItem_heap (nroom hu) ⟨Nk.is I2.hok _ _ _ hb rfl, hk⟩ dd e' ⟨.int n, H2, I2.tok _, ⟨t', rfl⟩, q2⟩⟩
/-- d[k] = n -/
def sPutN (P : Program) (w : World) (td ty tv : TE) : TS := fun D σ H => tv σ H fun v H1 => td σ H1 fun x H2 => ty σ H2 fun y H3 => ∃ a kvs k b n, v = .int n ∧ x = .ref a ∧ DN P w H3 a kvs ∧ y = .ref b ∧ Nk H3 k (.ref b) ∧ k.depth ≤ 8 ∧ kvs.length < 100000 ∧
  ∀ H4, DN P w H4 a (putN kvs k n) → (∀ c u, c ≠ a → H3 c = some u → H4 c = some u) → (∀ c, H4 c = none ↔ H3 c = none) → D.nx σ H4
theorem ps_putN {P : Program} {w : World} (hP : X.prog = P) (hW : X.w = w) {pos pos' : Pos} (hu : X.A.units + 64 < cLine) (ho : PE X o td) (hi : PE X i ty) (hv : PE X value tv) (hs : swapsWith value (some (.Subscript o i pos')) pos.line X.env = pure false) :
    PS X (.Assign [.Subscript o i pos'] value pos) (sPutN P w td ty tv) := by
  subst hP hW
  refine ⟨fun pins s σ H D I h => ?_⟩
  refine wpAny_Assign_Subscript (thn (hv.run pins s σ H _ I h) fun r s1 ⟨v, H1, I1, rv, q1⟩ => thn (ho.run pins s1 σ H1 _ I1 q1) fun u s2 ⟨x, H2, I2, rx, q2⟩ => thn (hi.run pins s2 σ H2 _ I2 q2) fun iv s3 ⟨y, H3, I3, ry, a, kvs, k, b, n, ev, ex, d, ey, hb, hk, hsm, q3⟩ => ?_) hs
  subst ev ex ey
  obtain rfl : u = Value.ref a := rx
  obtain rfl : iv = Value.ref b := ry
  obtain ⟨t, rfl⟩ := rv
  obtain ⟨xs, h1, hp, dd⟩ := d.dict I3.hok
  have hl : xs.length = kvs.length := (Paired.length hp).symm
  have hline : (100000 : Nat) ≤ sizeLine := by decide
  refine wpAny_setItem_heap (hsz := by omega) (nroom hu) ⟨Nk.is I3.hok _ _ _ hb rfl, hk⟩ dd fun h' dd' hs' => ?_
  obtain ⟨q, es, ep, hq, g2, g3, g4, _, _⟩ := dd'
  refine ⟨σ, upd H3 a (kdO X.prog X.w a (storedH xs k b (.int n t))), d_write I3 (by rw [h1]; exact True.intro) hs' ⟨q, hq⟩ (kdO_ok hq g2 g3 g4), q3 _ (d.put hp ⟨xs, h1⟩ hb hk hsm) (fun c u hc ec => ?_) (fun c => ?_)⟩
  · rw [upd_ne hc]; exact ec
  · by_cases hc : c = a
    · subst hc
      rw [upd_same, h1]
      simp
    · rw [upd_ne hc]
end

/-! ### d.keys(), sorted(d), sorted(d.keys()) -/
section
open PySem.W PySem.Calls
def keysO (v d : Addr) : HO := .ext fun h => KdlKeysView h v d
section
variable {X : Cx} {o : Expr} {td : TE}
def tKeysN (P : Program) (w : World) (td : TE) : TE := fun σ H Q => td σ H fun x H1 => ∃ a kvs, x = .ref a ∧ DN P w H1 a kvs ∧ ∀ p, H1 p = none → Q (.ref p) (upd H1 p (keysO p a))
theorem pe_keysN {apos cpos : Pos} (ho : PE X o td) (hbase : attributeBase o "keys" X.env (eval o X.env) = eval o X.env := by rfl) (hline : (apos.endLine == cpos.line) = true := by rfl) : PE X (.Call (.Attribute o "keys" apos) [] [] cpos) (tKeysN X.prog X.w td) := by
  refine ⟨fun pins s σ H Q I h => ?_⟩
  refine wpAny_Call_method0_late hbase hline (thn (ho.run pins s σ H _ I h) fun u s1 ⟨x, H1, I1, rx, a, kvs, ex, d, q1⟩ => ?_)
  subst ex
  obtain rfl : u = Value.ref a := rx
  obtain ⟨t1, t2⟩ := dn_at I1 d
  obtain ⟨xs, _, hp, dd⟩ := d.dict I1.hok
  obtain ⟨es, ep, hr, _, _⟩ := dd.raw
  refine ⟨"dict", _, PySem.F.plainAttrs_dict, PySem.F.slot_dict_keys, PySem.F.type_dict_keys, t1, t2, Calls.callWith_builtin rfl (PySem.evalArgs_none ?_)⟩
  refine call_meetsIn PySem.F.slot_dict_keys dd.typeIs PySem.F.entry_dict_keys (PySem.F.args_dict_keys_1 _) (meets_dict_keys_raw a d.nm) ⟨⟨es, ep, hr⟩, ?_⟩
  refine ⟨.ref s1.heap.objs.size, upd H1 s1.heap.objs.size (keysO s1.heap.objs.size a), I1.laid (t' := s1.toks) (fun _ _ e => Heap.get?_push_of_some _ e) (Nat.le_refl _) ?_, rfl, q1 _ (I1.hok.fresh (Nat.le_refl _))⟩
  exact ⟨⟨_, Heap.get?_push_size _ rfl, rfl, rfl⟩, ⟨_, Heap.get?_push_size _ rfl⟩, fun h1 h2 x k => let ⟨o, ho, r⟩ := x; ⟨o, k o ho, r⟩⟩
def rSortN (P : Program) (w : World) : List V → Hp → VK → Prop := fun vs H Q => ∃ (v a : Addr) (kvs : List (NestedKey × Int)), vs = [.ref v] ∧ (v = a ∨ H v = some (keysO v a)) ∧ DN P w H a kvs ∧ (∀ p ∈ kvs, ∃ l, p.1 = .tup l) ∧
  (∀ p ∈ kvs, ∀ q ∈ kvs, alike (kdat p.1) (kdat q.1) = true) ∧ (∀ p ∈ kvs, (kdat p.1).depth ≤ 8) ∧ ∀ l ys, H l = none → NkAll H ((kvs.map (·.1)).mergeSort (dataLe false kdat)) ys → Q (.ref l) (upd H l (.lst ys))
theorem refs_each {H : Hp} : ∀ {out : List Value} {ks : List NestedKey}, EachIs (fun v k => ∃ b, v = Value.ref b ∧ Nk H k (.ref b)) out ks → ∃ ys, Vals ys out ∧ NkAll H ks ys
  | _, _, .nil => ⟨[], .nil, .nil⟩
  | _, _, .cons ⟨b, e, hb⟩ t => by
    obtain ⟨ys, h1, h2⟩ := refs_each t
    subst e
    exact ⟨.ref b :: ys, .cons rfl h1, .cons hb h2⟩
theorem each_at {α β : Type} {R : α → β → Prop} : ∀ {l : List α} {m : List β}, l.length = m.length → (∀ (j : Nat) (x : α) (y : β), l[j]? = some x → m[j]? = some y → R x y) → EachIs R l m
  | [], [], _, _ => .nil
  | x :: l, y :: m, hl, h => .cons (h 0 x y rfl rfl) (each_at (by simpa using hl) fun j a b e1 e2 => h (j + 1) a b (by simpa using e1) (by simpa using e2))
  | [], _ :: _, hl, _ => by simp at hl
  | _ :: _, [], hl, _ => by simp at hl
theorem cr_sortedN (hc : X.calm = true) (hu : X.A.units + 64 < cLine) : CallR X (.builtin "sorted") (rSortN X.prog X.w) := by
  intro pins s σ H vs us Q I r q
  obtain ⟨v, a, kvs, ev, hv, d, htup, hal, hdep, q⟩ := q
  subst ev
  obtain rfl := Vals.ref1 r
  obtain ⟨xs, h1, hp, dd⟩ := d.dict I.hok
  obtain ⟨es, ep, hr, hes, hen⟩ := dd.raw
  have hxl : xs.length = kvs.length := (Paired.length hp).symm
  have hline : (100000 : Nat) ≤ sizeLine := by decide
  have hsm := d.sm
  have h16 : es.size ≤ sizeLine := by omega
  refine Calls.call_function_entry PyProof.Rows.kind_sorted PyProof.Rows.plain_sorted PyProof.Rows.entry_sorted (PyProof.Rows.args_sorted1 _) ?_
  unfold Builtin.«sorted»
  refine wpAny_bind (m := checkCount "sorted" 1 1 _) (wpAny_pure ?_)
  have col : ∀ (R : List Value → Shared → Prop), (∀ (h' : Heap) (tk : Nat) (acc : Array Value), (∀ b o, s.heap.get? b = some o → h'.get? b = some o) → ItemsOf (fun i v => ∃ hi : i < es.size, v = es[i].key) acc es.size → R acc.toList { s with heap := h', toks := tk }) →
      ∀ E, wpAny (model X.prog X.w) X.A.in1 (collect (.ref v)) R E s := fun R k E => by
    rcases hv with rfl | hv
    · exact kdu_collect (A := X.A.in1) (KdlSrc.rawDict (es := es) (ep := ep) d.nm) (I.ok.hd hc) hr h16 k
    · exact kdu_collect (A := X.A.in1) (KdlSrc.rawKeys (es := es) (ep := ep) (r := v) (d := a)) (I.ok.hd hc) ⟨(show ObjOk X.prog X.w H s.heap v (keysO v a) from I.hok v _ hv).1, hr⟩ h16 k
  refine wpAny_bind (col _ (fun h' tk acc hk hacc => ?_) _)
  have hal2 : acc.toList.length = (kvs.map (·.1)).length := by rw [Array.length_toList, hacc.1, List.length_map]; omega
  have hE : EachIs (fun v k => ∃ b, v = Value.ref b ∧ Nk H k (.ref b)) acc.toList (kvs.map (·.1)) := each_at hal2 fun j u k e1 e2 => by
    obtain ⟨hi, eu⟩ := hacc.2 j u (by rw [← Array.getElem?_toList]; exact e1)
    obtain ⟨y, hy, g1, _, _⟩ := hen j hi
    rw [paired_keys hp, List.getElem?_map, hy] at e2
    have ek : y.1 = k := Option.some.inj e2
    have hent : ∀ {l : List (NestedKey × Int)} {m : List Ent}, Paired (EntOk H) l m → ∀ y ∈ m, Nk H y.1 (.ref y.2.1) := by
      intro l m q
      induction q with
      | nil => intro y hy; cases hy
      | @cons p q ps qs hq t ih =>
        intro y hy
        rcases List.mem_cons.mp hy with e | hy
        · subst e; exact hq.2.1
        · exact ih y hy
    refine ⟨y.2.1, eu.trans g1, ?_⟩
    rw [← ek]
    exact hent hp y (List.mem_of_getElem? hy)
  have I1 : Inv X pins σ H { s with heap := h', toks := tk } := I.kept hk
  refine wpAny_bind (wpAny_newList ?_ (by rw [hal2, List.length_map]; omega))
  have hoL : (h'.push (seqObj "list" acc.toList.toArray 0)).get? h'.objs.size = some (seqObj "list" acc.toList.toArray 0) := Heap.get?_push_size _ rfl
  show wpAny _ _ _ _ _ { s with heap := h'.push (seqObj "list" acc.toList.toArray 0), toks := tk }
  have hR : EachIs (fun v b => ∃ as, Reads (h'.push (seqObj "list" acc.toList.toArray 0)) v (kdat b) as ∧ h'.objs.size ∉ as) acc.toList (kvs.map (·.1)) := hE.mono fun u k ⟨b, eu, hb⟩ => by
    subst eu
    exact ⟨[], PyProof.Rows.Reads.keeps (fun b o e => Heap.get?_push_of_some _ e) (Nk.reads I1.hok _ _ _ hb rfl), by simp⟩
  refine wpAny_bind (wpAny_holding (list_sort_tup (s := { s with heap := h'.push (seqObj "list" acc.toList.toArray 0), toks := tk }) (enc := kdat) (R := fun v k => ∃ b, v = Value.ref b ∧ Nk H k (.ref b)) hoL hE hR ?_ ?_ ?_ ?_ fun out ho2 hout => ?_))
  · intro x hx y hy
    obtain ⟨k, hk1, rfl⟩ := List.mem_map.mp hx
    obtain ⟨k', hk2, rfl⟩ := List.mem_map.mp hy
    obtain ⟨p, hp1, rfl⟩ := List.mem_map.mp hk1
    obtain ⟨p', hp2, rfl⟩ := List.mem_map.mp hk2
    exact hal p hp1 p' hp2
  · intro k hk1
    obtain ⟨p, hp1, rfl⟩ := List.mem_map.mp hk1
    obtain ⟨l, el⟩ := htup p hp1
    exact ⟨kdats l, by rw [el]; rfl⟩
  · rw [List.length_map]; omega
  · intro k hk1
    obtain ⟨p, hp1, rfl⟩ := List.mem_map.mp hk1
    have h8 := hdep p hp1
    have h9 : X.A.in1.units = X.A.units + 1 := rfl
    omega
  · obtain ⟨ys, hys1, hys2⟩ := refs_each hout
    obtain ⟨e', he'⟩ := PyProof.Rows.sortedHeap_at (vs := acc.toList) (out := out.toArray) hoL
    have hlen : ys.length ≤ sizeLine := by
      rw [hys1.length, ho2, List.length_map]
      omega
    refine wpAny_pure ⟨_, rfl, .ref h'.objs.size, upd H h'.objs.size (.lst ys), I1.laid (t' := tk) (fun b u e => ?_) (Nat.le_refl _)
      (show ObjOk X.prog X.w _ _ _ (.lst ys) from ⟨hlen, out, e', hys1, he'⟩), rfl, q _ ys (I1.hok.fresh (Nat.le_refl _)) hys2⟩
    have hb : b < h'.objs.size := Heap.lt_size e
    rw [PyProof.Rows.sortedHeap_old (Nat.ne_of_lt hb) (by rw [size_push']; exact Nat.lt_succ_of_lt hb)]
    exact Heap.get?_push_of_some _ e
end
end

/-! ### pairs gathered by key: the mathematics -/
def totals (l : List (NestedKey × Int)) : List (NestedKey × Int) := l.foldl (fun d p => putN d p.1 ((lookN d p.1).getD 0 + p.2)) []
def pick (kvs : List (NestedKey × Int)) (k : NestedKey) : Option (NestedKey × Int) := match lookN kvs k with
  | some n => if n = 0 then none else some (k, n)
  | none => none
def sortedKeys (kvs : List (NestedKey × Int)) : List NestedKey := (kvs.map (·.1)).mergeSort (PySem.W.dataLe false kdat)
def settle (l : List (NestedKey × Int)) : List (NestedKey × Int) := (sortedKeys (totals l)).filterMap (pick (totals l))
/-- keys that can be sorted together -/
structure KeysOk (ks : List NestedKey) : Prop where
  tup : ∀ k ∈ ks, ∃ l, k = .tup l
  dep : ∀ k ∈ ks, k.depth ≤ 8
  dep2 : ∀ k ∈ ks, (kdat k).depth ≤ 8
  alk : ∀ k ∈ ks, ∀ k' ∈ ks, PySem.W.alike (kdat k) (kdat k') = true
theorem KeysOk.sub {ks ks' : List NestedKey} (h : KeysOk ks) (s : ∀ k ∈ ks', k ∈ ks) : KeysOk ks' :=
  ⟨fun k hk => h.tup k (s k hk), fun k hk => h.dep k (s k hk), fun k hk => h.dep2 k (s k hk), fun k hk k' hk' => h.alk k (s k hk) k' (s k' hk')⟩
theorem totals_more (l : List (NestedKey × Int)) (p : NestedKey × Int) : totals (l ++ [p]) = putN (totals l) p.1 ((lookN (totals l) p.1).getD 0 + p.2) := by
  unfold totals
  rw [List.foldl_append]
  rfl
theorem totals_keys (l : List (NestedKey × Int)) : ∀ k ∈ (totals l).map (·.1), k ∈ l.map (·.1) := by
  have key : ∀ (l a : List (NestedKey × Int)) (ks : List NestedKey), (∀ k ∈ a.map (·.1), k ∈ ks) → (∀ p ∈ l, p.1 ∈ ks) → ∀ k ∈ (l.foldl (fun d p => putN d p.1 ((lookN d p.1).getD 0 + p.2)) a).map (·.1), k ∈ ks := by
    intro l
    induction l with
    | nil => intro a ks h _ k hk; exact h k hk
    | cons p l ih =>
      intro a ks h hl k hk
      refine ih _ ks (fun k hk => ?_) (fun q hq => hl q (List.mem_cons_of_mem _ hq)) k hk
      rw [putN_keys] at hk
      split at hk
      · exact h k hk
      · rcases List.mem_append.mp hk with hk | hk
        · exact h k hk
        · rw [List.mem_singleton.mp hk]; exact hl p (List.mem_cons_self ..)
  exact key l [] _ (fun k hk => by cases hk) (fun p hp => List.mem_map_of_mem hp)
theorem totals_len (l : List (NestedKey × Int)) : (totals l).length ≤ l.length := by
  have key : ∀ (l a : List (NestedKey × Int)), (l.foldl (fun d p => putN d p.1 ((lookN d p.1).getD 0 + p.2)) a).length ≤ a.length + l.length := by
    intro l
    induction l with
    | nil => intro a; exact Nat.le_refl _
    | cons p l ih =>
      intro a
      have h1 := ih (putN a p.1 ((lookN a p.1).getD 0 + p.2))
      have h2 := putN_len a p.1 ((lookN a p.1).getD 0 + p.2)
      rw [List.foldl_cons, List.length_cons]
      omega
  have := key l []
  rw [List.length_nil, Nat.zero_add] at this
  exact this
theorem take_more' {α : Type} {l : List α} {i : Nat} {x : α} (h : l[i]? = some x) : l.take (i + 1) = l.take i ++ [x] := by
  rw [List.take_add_one, h]; rfl
theorem lookN_some {kvs : List (NestedKey × Int)} {k : NestedKey} (h : k ∈ kvs.map (·.1)) : ∃ n, lookN kvs k = some n := by
  cases e : lookN kvs k with
  | some n => exact ⟨n, rfl⟩
  | none => exact absurd h (lookN_none e)
theorem sortedKeys_mem {kvs : List (NestedKey × Int)} {k : NestedKey} : k ∈ sortedKeys kvs ↔ k ∈ kvs.map (·.1) := (List.mergeSort_perm _ _).mem_iff
theorem sortedKeys_len (kvs : List (NestedKey × Int)) : (sortedKeys kvs).length = kvs.length := by
  unfold sortedKeys
  rw [(List.mergeSort_perm _ _).length_eq, List.length_map]
theorem filterMap_more {α β : Type} (f : α → Option β) {l : List α} {i : Nat} {x : α} (h : l[i]? = some x) : (l.take (i + 1)).filterMap f = (l.take i).filterMap f ++ (f x).toList := by
  rw [take_more' h, List.filterMap_append]
  cases hf : f x with
  | none => simp [hf]
  | some y => simp [hf]
/-! ### a list of such pairs in the heap -/
inductive PrAll (H : Hp) : List (NestedKey × Int) → List V → Prop
  | nil : PrAll H [] []
  | cons {k : NestedKey} {n : Int} {t b : Addr} {l : List (NestedKey × Int)} {xs : List V} : H t = some (.tup [.ref b, .int n]) → Nk H k (.ref b) → PrAll H l xs → PrAll H ((k, n) :: l) (.ref t :: xs)
theorem PrAll.mono {H H' : Hp} (s : Same H H') : ∀ {l : List (NestedKey × Int)} {xs : List V}, PrAll H l xs → PrAll H' l xs
  | _, _, .nil => .nil
  | _, _, .cons a b c => .cons (s _ _ a) (Nk.mono s _ _ b) (c.mono s)
theorem PrAll.length {H : Hp} : ∀ {l : List (NestedKey × Int)} {xs : List V}, PrAll H l xs → xs.length = l.length
  | _, _, .nil => rfl
  | _, _, .cons _ _ c => by rw [List.length_cons, List.length_cons, c.length]
theorem PrAll.at {H : Hp} : ∀ {l : List (NestedKey × Int)} {xs : List V} {i : Nat} {x : V}, PrAll H l xs → xs[i]? = some x → ∃ k n t b, l[i]? = some (k, n) ∧ x = .ref t ∧ H t = some (.tup [.ref b, .int n]) ∧ Nk H k (.ref b)
  | _, _, i, x, .nil, h => by simp at h
  | _, _, 0, x, .cons (k := k) (n := n) (t := t) (b := b) a c _, h => ⟨k, n, t, b, rfl, (Option.some.inj h).symm, a, c⟩
  | _, _, i + 1, x, .cons _ _ r, h => by
    obtain ⟨k, n, t, b, h1, h2⟩ := r.at (i := i) h
    exact ⟨k, n, t, b, h1, h2⟩
theorem PrAll.app {H : Hp} : ∀ {l m : List (NestedKey × Int)} {xs ys : List V}, PrAll H l xs → PrAll H m ys → PrAll H (l ++ m) (xs ++ ys)
  | _, _, _, _, .nil, h => h
  | _, _, _, _, .cons a b c, h => .cons a b (c.app h)
theorem NkAll.at {H : Hp} : ∀ {ks : List NestedKey} {ys : List V} {i : Nat} {y : V}, NkAll H ks ys → ys[i]? = some y → ∃ k, ks[i]? = some k ∧ Nk H k y
  | _, _, i, y, .nil, h => by simp at h
  | _, _, 0, y, .cons (k := k) a _, h => ⟨k, rfl, (Option.some.inj h) ▸ a⟩
  | _, _, i + 1, y, .cons _ r, h => by
    obtain ⟨k, h1, h2⟩ := NkAll.at r (i := i) h
    exact ⟨k, h1, h2⟩
theorem NkAll.length {H : Hp} : ∀ {ks : List NestedKey} {ys : List V}, NkAll H ks ys → ys.length = ks.length
  | _, _, .nil => rfl
  | _, _, .cons _ r => by rw [List.length_cons, List.length_cons, NkAll.length r]
theorem nk_ref {H : Hp} {l : List NestedKey} {v : V} (h : Nk H (.tup l) v) : ∃ b, v = .ref b := by
  cases h with
  | tup e r => exact ⟨_, rfl⟩
/-- what gathering promises, of a list or a tuple of pairs -/
def sp_gath (K : PySem.W.Frag) (sq : PySem.W.Frag → Hp → Addr → List V → Prop) : Sp := fun vs H Q _ => ∃ (p : Addr) (xs : List V) (l : List (NestedKey × Int)), vs = [.ref p] ∧ sq K H p xs ∧ PrAll H l xs ∧ l.length ≤ 10000 ∧ KeysOk (l.map (·.1)) ∧
  ∀ H' q ys, Same H H' → H q = none → H' q = some (.lst ys) → PrAll H' (settle l) ys → Q (.ref q) H'
theorem same_of_put {H0 H3 H4 : Hp} {a : Addr} (s : Same H0 H3) (ha : H0 a = none) (k : ∀ c u, c ≠ a → H3 c = some u → H4 c = some u) : Same H0 H4 := fun c u e => k c u (ne_of_none e ha) (s c u e)
/-- all but the list at D stays -/
def Same7 (D : Addr) (H H' : Hp) : Prop := ∀ c u, c ≠ D → H c = some u → H' c = some u
theorem prAllD {H H' : Hp} {D : Addr} {zs0 : List V} (hD : H D = some (.lst zs0)) (s : Same7 D H H') : ∀ {l : List (NestedKey × Int)} {xs : List V}, PrAll H l xs → PrAll H' l xs
  | _, _, .nil => .nil
  | _, _, .cons a b c => .cons (s _ _ (ne_of a hD (fun z => nomatch z)) a) (nkTup (fun c zs' e => s _ _ (ne_of e hD (fun z => nomatch z)) e) _ _ b) (prAllD hD s c)
theorem sq_tup {K : PySem.W.Frag} {H H' : Hp} {a : Addr} {xs : List V} (e : Same H H') (h : SqT K H a xs) : SqT K H' a xs := by
  rcases h with (h | ⟨o, h⟩) | h
  · exact .inl (.inl (e _ _ h))
  · exact .inl (.inr ⟨o, e _ _ h⟩)
  · exact .inr h

/-! ### the one form: the mathematics -/
section
open PySem.W PySem.Calls
mutual
theorem eqv_kdat : ∀ a b : NestedKey, PyData.eqv (kdat a) (kdat b) = true → a = b
  | .none, .none, _ => rfl
  | .num a, .num b, h => by simp [kdat, PyData.eqv] at h; rw [h]
  | .text a, .text b, h => by simp [kdat, PyData.eqv] at h; rw [h]
  | .tup a, .tup b, h => by simp only [kdat, PyData.eqv] at h; rw [eqv_kdats a b h]
  | .none, .num _, h => by simp [kdat, PyData.eqv] at h
  | .none, .text _, h => by simp [kdat, PyData.eqv] at h
  | .none, .tup _, h => by simp [kdat, PyData.eqv] at h
  | .num _, .none, h => by simp [kdat, PyData.eqv] at h
  | .num _, .text _, h => by simp [kdat, PyData.eqv] at h
  | .num _, .tup _, h => by simp [kdat, PyData.eqv] at h
  | .text _, .none, h => by simp [kdat, PyData.eqv] at h
  | .text _, .num _, h => by simp [kdat, PyData.eqv] at h
  | .text _, .tup _, h => by simp [kdat, PyData.eqv] at h
  | .tup _, .none, h => by simp [kdat, PyData.eqv] at h
  | .tup _, .num _, h => by simp [kdat, PyData.eqv] at h
  | .tup _, .text _, h => by simp [kdat, PyData.eqv] at h
theorem eqv_kdats : ∀ a b : List NestedKey, PyData.eqvAll (kdats a) (kdats b) = true → a = b
  | [], [], _ => rfl
  | a :: as, b :: bs, h => by
    simp only [kdats, PyData.eqvAll, Bool.and_eq_true] at h
    rw [eqv_kdat a b h.1, eqv_kdats as bs h.2]
  | [], _ :: _, h => by simp [kdats, PyData.eqvAll] at h
  | _ :: _, [], h => by simp [kdats, PyData.eqvAll] at h
end
theorem toks_inj {a b : PyData} (hal : alike a b = true) (h : keyToks a = keyToks b) : PyData.eqv a b = true := by
  cases e : PyData.eqv a b with
  | true => rfl
  | false =>
    have := (toks_eqv a b hal).2 e [] [Sum.inl 0]
    rw [h, PyProof.Rows.lex_irrefl, PySem.W.lex_pre] at this
    exact absurd this (by decide)
theorem lt_total {a b : NestedKey} (hal : alike (kdat a) (kdat b) = true) (hne : a ≠ b) (h : dataLt (kdat b) (kdat a) = false) : dataLt (kdat a) (kdat b) = true := by
  cases e : dataLt (kdat a) (kdat b) with
  | true => rfl
  | false => exact absurd (eqv_kdat a b (toks_inj hal (PyProof.Rows.lex_total _ _ e h))) hne
theorem totals_nodup (l : List (NestedKey × Int)) : ((totals l).map (·.1)).Nodup := by
  have key : ∀ (l a : List (NestedKey × Int)), (a.map (·.1)).Nodup → ((l.foldl (fun d p => putN d p.1 ((lookN d p.1).getD 0 + p.2)) a).map (·.1)).Nodup := by
    intro l
    induction l with
    | nil => intro a h; exact h
    | cons p l ih => intro a h; exact ih _ (putN_nodup h)
  exact key l [] List.nodup_nil
/-- one key stands ahead of the other -/
def KLt (a b : NestedKey) : Prop := dataLt (kdat a) (kdat b) = true
theorem sorted_asc {kvs : List (NestedKey × Int)} (hn : (kvs.map (·.1)).Nodup) (hal : ∀ a ∈ kvs.map (·.1), ∀ b ∈ kvs.map (·.1), alike (kdat a) (kdat b) = true) : (sortedKeys kvs).Pairwise KLt := by
  have h1 : (sortedKeys kvs).Pairwise (fun a b => dataLe false kdat a b = true) := sort_pairwise (sortLe_total _ _ _) _
  have h2 : (sortedKeys kvs).Pairwise (fun a b => a ≠ b) := ((List.mergeSort_perm _ _).nodup_iff).mpr hn
  have h3 := h1.and h2
  refine h3.imp_of_mem fun {a b} ha hb h => ?_
  have h4 : dataLe false kdat a b = true := h.1
  rw [dataLe_eq] at h4
  have h5 : (!dataLt (kdat b) (kdat a)) = true := h4
  exact lt_total (hal a (sortedKeys_mem.mp ha) b (sortedKeys_mem.mp hb)) h.2 (by simpa using h5)
theorem pick_some {kvs : List (NestedKey × Int)} {k : NestedKey} {p : NestedKey × Int} (h : pick kvs k = some p) : p.1 = k ∧ p.2 ≠ 0 := by
  unfold pick at h
  split at h
  · split at h
    · cases h
    · cases h
      exact ⟨rfl, by assumption⟩
  · cases h
theorem settle_keys {l : List (NestedKey × Int)} {p : NestedKey × Int} (h : p ∈ settle l) : p.1 ∈ l.map (·.1) ∧ p.2 ≠ 0 := by
  obtain ⟨k, hk, hp⟩ := List.mem_filterMap.mp h
  obtain ⟨e1, e2⟩ := pick_some hp
  rw [e1]
  exact ⟨totals_keys l k (sortedKeys_mem.mp hk), e2⟩
theorem settle_len (l : List (NestedKey × Int)) : (settle l).length ≤ l.length := by
  have h1 : (settle l).length ≤ (sortedKeys (totals l)).length := List.length_filterMap_le _ _
  rw [sortedKeys_len] at h1
  exact Nat.le_trans h1 (totals_len l)
theorem settle_asc {l : List (NestedKey × Int)} (hK : KeysOk (l.map (·.1))) : ((settle l).map (·.1)).Pairwise KLt := by
  rw [List.pairwise_map]
  refine (sorted_asc (totals_nodup l) (fun a ha b hb => hK.alk a (totals_keys l a ha) b (totals_keys l b hb))).filterMap _ fun a b h p hp q hq => ?_
  rw [(pick_some hp).1, (pick_some hq).1]
  exact h
/-! marks, rows, sums -/
def markK (a b : Int) : NestedKey := .tup [.num a, .num b]
def pairK (p : NestedKey × Int) : NestedKey := .tup [p.1, .num p.2]
def rowK (l : List (NestedKey × Int)) : NestedKey := .tup (l.map pairK)
def unpair : NestedKey → Option (NestedKey × Int)
  | .tup [k, .num n] => some (k, n)
  | _ => none
def unrow : NestedKey → List (NestedKey × Int)
  | .tup ks => ks.filterMap unpair
  | _ => []
theorem unrow_row (l : List (NestedKey × Int)) : unrow (rowK l) = l := by
  show (l.map pairK).filterMap unpair = l
  rw [List.filterMap_map]
  have : (unpair ∘ pairK) = some := by funext p; rfl
  rw [this]
  exact List.filterMap_some
def IsMark (k : NestedKey) : Prop := ∃ a b : Int, k = markK a b
structure RowOk (l : List (NestedKey × Int)) : Prop where
  len : l.length ≤ 10000
  rk : ∀ p ∈ l, IsMark p.1
  nz : ∀ p ∈ l, p.2 ≠ 0
  asc : (l.map (·.1)).Pairwise KLt
def IsRow (k : NestedKey) : Prop := ∃ l, k = rowK l ∧ RowOk l
structure SumOk (l : List (NestedKey × Int)) : Prop where
  len : l.length ≤ 10000
  rk : ∀ p ∈ l, IsRow p.1
  nz : ∀ p ∈ l, p.2 ≠ 0
  asc : (l.map (·.1)).Pairwise KLt
theorem alike_mark (a b c d : Int) : alike (kdat (markK a b)) (kdat (markK c d)) = true := by
  simp [markK, kdat, kdats, alike, alikeAll]
theorem alike_rows : ∀ l m : List (NestedKey × Int), (∀ p ∈ l, IsMark p.1) → (∀ p ∈ m, IsMark p.1) → alikeAll (kdats (l.map pairK)) (kdats (m.map pairK)) = true
  | [], _, _, _ => by rw [List.map_nil, kdats, alikeAll]
  | _ :: _, [], _, _ => by rw [List.map_nil, List.map_cons, kdats, kdats, alikeAll]
  | p :: l, q :: m, h1, h2 => by
    obtain ⟨a, b, e1⟩ := h1 p (List.mem_cons_self ..)
    obtain ⟨c, d, e2⟩ := h2 q (List.mem_cons_self ..)
    have ih := alike_rows l m (fun x hx => h1 x (List.mem_cons_of_mem _ hx)) (fun x hx => h2 x (List.mem_cons_of_mem _ hx))
    rw [List.map_cons, List.map_cons, kdats, kdats, alikeAll, ih, Bool.and_true]
    rw [pairK, pairK, e1, e2]
    simp [markK, kdat, kdats, alike, alikeAll]
theorem alike_row {l m : List (NestedKey × Int)} (h1 : ∀ p ∈ l, IsMark p.1) (h2 : ∀ p ∈ m, IsMark p.1) : alike (kdat (rowK l)) (kdat (rowK m)) = true := by
  rw [rowK, rowK, kdat, kdat, alike]
  exact alike_rows l m h1 h2
theorem keysMark {ks : List NestedKey} (h : ∀ k ∈ ks, IsMark k) : KeysOk ks where
  tup k hk := by obtain ⟨a, b, rfl⟩ := h k hk; exact ⟨_, rfl⟩
  dep k hk := by obtain ⟨a, b, rfl⟩ := h k hk; exact (by decide : (1 : Nat) ≤ 8)
  dep2 k hk := by
    obtain ⟨a, b, rfl⟩ := h k hk
    simp [markK, kdat, kdats, PyData.depth, PyData.depthAll]
  alk k hk k' hk' := by
    obtain ⟨a, b, rfl⟩ := h k hk
    obtain ⟨c, d, rfl⟩ := h k' hk'
    exact alike_mark a b c d
theorem depth_row {l : List (NestedKey × Int)} (h : ∀ p ∈ l, IsMark p.1) : NestedKey.depthAll (l.map pairK) ≤ 2 ∧ PyData.depthAll (kdats (l.map pairK)) ≤ 2 := by
  induction l with
  | nil => exact ⟨Nat.zero_le _, by simp [kdats, PyData.depthAll]⟩
  | cons p l ih =>
    obtain ⟨a, b, e⟩ := h p (List.mem_cons_self ..)
    obtain ⟨i1, i2⟩ := ih fun x hx => h x (List.mem_cons_of_mem _ hx)
    rw [List.map_cons, kdats, pairK, e]
    constructor
    · simp only [NestedKey.depthAll, NestedKey.depth, markK]
      omega
    · simp only [PyData.depthAll, PyData.depth, markK, kdat, kdats]
      omega
theorem keysRow {ks : List NestedKey} (h : ∀ k ∈ ks, IsRow k) : KeysOk ks where
  tup k hk := by obtain ⟨l, rfl, _⟩ := h k hk; exact ⟨_, rfl⟩
  dep k hk := by
    obtain ⟨l, rfl, hl⟩ := h k hk
    have := (depth_row hl.rk).1
    show NestedKey.depthAll (l.map pairK) + 1 ≤ 8
    omega
  dep2 k hk := by
    obtain ⟨l, rfl, hl⟩ := h k hk
    have := (depth_row hl.rk).2
    rw [rowK, kdat, PyData.depth]
    omega
  alk k hk k' hk' := by
    obtain ⟨l, rfl, hl⟩ := h k hk
    obtain ⟨m, rfl, hm⟩ := h k' hk'
    exact alike_row hl.rk hm.rk
theorem settle_row {l : List (NestedKey × Int)} (hl : l.length ≤ 10000) (h : ∀ p ∈ l, IsMark p.1) : RowOk (settle l) where
  len := Nat.le_trans (settle_len l) hl
  rk p hp := by
    obtain ⟨q, hq, e⟩ := List.mem_map.mp (settle_keys hp).1
    rw [← e]
    exact h q hq
  nz p hp := (settle_keys hp).2
  asc := settle_asc (keysMark fun k hk => by obtain ⟨q, hq, rfl⟩ := List.mem_map.mp hk; exact h q hq)
theorem settle_sum {l : List (NestedKey × Int)} (hl : l.length ≤ 10000) (h : ∀ p ∈ l, IsRow p.1) : SumOk (settle l) where
  len := Nat.le_trans (settle_len l) hl
  rk p hp := by
    obtain ⟨q, hq, e⟩ := List.mem_map.mp (settle_keys hp).1
    rw [← e]
    exact h q hq
  nz p hp := (settle_keys hp).2
  asc := settle_asc (keysRow fun k hk => by obtain ⟨q, hq, rfl⟩ := List.mem_map.mp hk; exact h q hq)
theorem RowOk.keys {l : List (NestedKey × Int)} (h : RowOk l) : KeysOk (l.map (·.1)) := keysMark fun k hk => by obtain ⟨q, hq, rfl⟩ := List.mem_map.mp hk; exact h.rk q hq
theorem SumOk.keys {l : List (NestedKey × Int)} (h : SumOk l) : KeysOk (l.map (·.1)) := keysRow fun k hk => by obtain ⟨q, hq, rfl⟩ := List.mem_map.mp hk; exact h.rk q hq
theorem asc_at {l : List (NestedKey × Int)} (h : (l.map (·.1)).Pairwise KLt) {i : Nat} {p q : NestedKey × Int} (h1 : l[i]? = some p) (h2 : l[i + 1]? = some q) : KLt p.1 q.1 := by
  obtain ⟨g1, e1⟩ := List.getElem?_eq_some_iff.mp h1
  obtain ⟨g2, e2⟩ := List.getElem?_eq_some_iff.mp h2
  have := (List.pairwise_iff_getElem.mp h) i (i + 1) (by rw [List.length_map]; exact g1) (by rw [List.length_map]; exact g2) (by omega)
  rw [List.getElem_map, List.getElem_map, e1, e2] at this
  exact this
theorem SumOk.nil : SumOk [] := ⟨Nat.zero_le _, fun p h => (by cases h), fun p h => (by cases h), List.Pairwise.nil⟩
theorem RowOk.nil : RowOk [] := ⟨Nat.zero_le _, fun p h => (by cases h), fun p h => (by cases h), List.Pairwise.nil⟩
theorem RowOk.one (a b : Int) {n : Int} (hn : n ≠ 0) : RowOk [(markK a b, n)] := ⟨(by show 1 ≤ 10000; decide), fun p h => (by rw [List.mem_singleton.mp h]; exact ⟨a, b, rfl⟩), fun p h => (by rw [List.mem_singleton.mp h]; exact hn), List.pairwise_singleton ..⟩
theorem SumOk.one {k : NestedKey} (h : IsRow k) {n : Int} (hn : n ≠ 0) : SumOk [(k, n)] := ⟨(by show 1 ≤ 10000; decide), fun p h' => (by rw [List.mem_singleton.mp h']; exact h), fun p h' => (by rw [List.mem_singleton.mp h']; exact hn), List.pairwise_singleton ..⟩
theorem SumOk.neg {l : List (NestedKey × Int)} (h : SumOk l) : SumOk (l.map fun p => (p.1, -p.2)) where
  len := by rw [List.length_map]; exact h.len
  rk p hp := by obtain ⟨q, hq, rfl⟩ := List.mem_map.mp hp; exact h.rk q hq
  nz p hp := by obtain ⟨q, hq, rfl⟩ := List.mem_map.mp hp; have := h.nz q hq; show -q.2 ≠ 0; omega
  asc := by rw [List.map_map]; exact h.asc
/-! rows and pairs in the heap -/
theorem PrAll.row {H : Hp} : ∀ {l : List (NestedKey × Int)} {xs : List V}, PrAll H l xs → NkAll H (l.map pairK) xs
  | _, _, .nil => .nil
  | _, _, .cons a b c => .cons (.tup a (.cons b (.cons (.num _) .nil))) c.row
theorem PrAll.key {H : Hp} {l : List (NestedKey × Int)} {xs : List V} {q : Addr} (h : PrAll H l xs) (e : H q = some (.tup xs)) : Nk H (rowK l) (.ref q) := .tup e h.row
theorem PrAll.of_row {H : Hp} : ∀ {l : List (NestedKey × Int)} {xs : List V}, (∀ p ∈ l, IsMark p.1) → NkAll H (l.map pairK) xs → PrAll H l xs
  | [], _, _, h => by cases h; exact .nil
  | p :: l, _, hm, h => by
    cases h with
    | cons a b =>
      cases a with
      | tup e r =>
        cases r with
        | cons r1 r2 =>
          cases r2 with
          | cons r3 r4 =>
            cases r3
            cases r4
            obtain ⟨x, y, ek⟩ := hm p (List.mem_cons_self ..)
            have r1' := r1
            rw [ek] at r1'
            obtain ⟨c, rfl⟩ := nk_ref r1'
            exact .cons e r1 (PrAll.of_row (fun x hx => hm x (List.mem_cons_of_mem _ hx)) b)
theorem nk_row {H : Hp} {l : List (NestedKey × Int)} {b : Addr} (hm : ∀ p ∈ l, IsMark p.1) (h : Nk H (rowK l) (.ref b)) : ∃ xs, H b = some (.tup xs) ∧ PrAll H l xs := by
  cases h with
  | tup e r => exact ⟨_, e, PrAll.of_row hm r⟩
theorem nk_mark {H : Hp} {x y : Int} {b : Addr} (h : Nk H (markK x y) (.ref b)) : H b = some (.tup [.int x, .int y]) := by
  cases h with
  | tup e r =>
    cases r with
    | cons r1 r2 =>
      cases r1
      cases r2 with
      | cons r3 r4 =>
        cases r3
        cases r4
        exact e
def pdat (p : NestedKey × Int) : PyData := .tuple [kdat p.1, .int p.2]
theorem PrAll.dp {K : PySem.W.Frag} {H : Hp} : ∀ {l : List (NestedKey × Int)} {xs : List V}, PrAll H l xs → DpAll K H xs (l.map pdat)
  | _, _, .nil => .nil
  | _, _, .cons a b c => .cons (.tup (.inl (.inl a)) (.cons (Nk.dp _ _ b) (.cons (.int _) .nil))) c.dp
theorem lay_row {l : List (NestedKey × Int)} (h : ∀ p ∈ l, IsMark p.1) : PyData.canLayAll0 (kdats (l.map pairK)) = true := by
  induction l with
  | nil => rfl
  | cons p l ih =>
    obtain ⟨a, b, e⟩ := h p (List.mem_cons_self ..)
    rw [List.map_cons, kdats, pairK, e, PyData.canLayAll0, ih fun x hx => h x (List.mem_cons_of_mem _ hx)]
    rfl
theorem sum_data {l : List (NestedKey × Int)} (h : ∀ p ∈ l, IsRow p.1) : PyData.canLayAll0 (l.map pdat) = true ∧ PyData.depthAll (l.map pdat) ≤ 5 := by
  induction l with
  | nil => exact ⟨rfl, by simp [PyData.depthAll]⟩
  | cons p l ih =>
    obtain ⟨m, e, hm⟩ := h p (List.mem_cons_self ..)
    obtain ⟨i1, i2⟩ := ih fun x hx => h x (List.mem_cons_of_mem _ hx)
    have h1 := lay_row hm.rk
    have h2 := (depth_row hm.rk).2
    rw [List.map_cons, pdat, e, rowK, kdat]
    constructor
    · rw [PyData.canLayAll0, i1, Bool.and_true]
      simp only [PyData.canLay0, PyData.canLayAll0, h1, Bool.and_self]
    · simp only [PyData.depthAll, PyData.depth]
      omega
theorem sum_shaped {l : List (NestedKey × Int)} (h : SumOk l) : SeqAt.shaped (.list (l.map pdat)) = true := by
  obtain ⟨h1, h2⟩ := sum_data h.rk
  unfold SeqAt.shaped
  rw [Bool.and_eq_true]
  exact ⟨by simp only [PyData.canLay0, h1], decide_eq_true (by rw [PyData.depth]; omega)⟩
theorem two_shaped {l m : List (NestedKey × Int)} (h : SumOk l) (h' : SumOk m) : SeqAt.shaped (.list [.list (l.map pdat), .list (m.map pdat)]) = true := by
  obtain ⟨h1, h2⟩ := sum_data h.rk
  obtain ⟨g1, g2⟩ := sum_data h'.rk
  unfold SeqAt.shaped
  rw [Bool.and_eq_true]
  exact ⟨by simp only [PyData.canLay0, PyData.canLayAll0, h1, g1, Bool.and_self], decide_eq_true (by simp only [PyData.depth, PyData.depthAll]; omega)⟩
end
/-! ### a >= b of nested tuples -/
section
open PySem.W PySem.Calls
variable {X : Cx}
def rGeN : R2 := fun x y H Q => ∃ a b k k', x = .ref a ∧ y = .ref b ∧ Nk H (.tup k) (.ref a) ∧ Nk H (.tup k') (.ref b) ∧ alike (kdat (.tup k)) (kdat (.tup k')) = true ∧ (kdat (.tup k)).depth ≤ 8 ∧ Q (.bl (!dataLt (kdat (.tup k)) (kdat (.tup k')))) H
theorem op_geN (hu : X.A.units + 64 < cLine) : OpR X (compareOp .GtE) rGeN := by
  intro pins s σ H x y v u Q I rx ry h
  obtain ⟨a, b, k, k', rfl, rfl, ha, hb, hal, hd, q⟩ := h
  have r1 := Nk.reads I.hok _ _ _ ha rx
  have r2 := Nk.reads I.hok _ _ _ hb ry
  have hm : min (kdat (.tup k)).depth (kdat (.tup k')).depth ≤ (kdat (.tup k)).depth := Nat.min_le_left _ _
  exact ge_data r1 r2 hal (by rw [kdat]; exact fun z => nomatch z) (by omega) ⟨.bl _, H, I, rfl, q⟩
end

/-! ### settling in any order -/
section
open PySem.W PySem.Calls
def cnt (l : List (NestedKey × Int)) (k : NestedKey) : Int := (l.map fun p => if p.1 = k then p.2 else 0).sum
theorem cnt_cons (p : NestedKey × Int) (l : List (NestedKey × Int)) (k : NestedKey) : cnt (p :: l) k = (if p.1 = k then p.2 else 0) + cnt l k := by
  unfold cnt
  rw [List.map_cons, List.sum_cons]
theorem cnt_perm {l m : List (NestedKey × Int)} (h : l.Perm m) (k : NestedKey) : cnt l k = cnt m k := by
  induction h with
  | nil => rfl
  | cons p _ ih => rw [cnt_cons, cnt_cons, ih]
  | swap p q l => rw [cnt_cons, cnt_cons, cnt_cons, cnt_cons]; omega
  | trans _ _ h1 h2 => rw [h1, h2]
theorem lookN_cons (p : NestedKey × Int) (l : List (NestedKey × Int)) (k : NestedKey) : lookN (p :: l) k = if p.1 = k then some p.2 else lookN l k := by
  unfold lookN
  by_cases h : p.1 = k
  · rw [List.find?_cons_of_pos (by simp [h]), if_pos h]; rfl
  · rw [List.find?_cons_of_neg (by simp [h]), if_neg h]
theorem lookN_map (k0 : NestedKey) (n : Int) (k : NestedKey) : ∀ l : List (NestedKey × Int), lookN (l.map fun p => if p.1 = k0 then (p.1, n) else p) k = if k0 = k then (lookN l k).map (fun _ => n) else lookN l k
  | [] => by
    show (none : Option Int) = if k0 = k then none else none
    split <;> rfl
  | p :: l => by
    have ih := lookN_map k0 n k l
    rw [List.map_cons, lookN_cons, lookN_cons, ih]
    by_cases h1 : p.1 = k0
    · rw [if_pos h1]
      by_cases h2 : k0 = k
      · rw [if_pos (h1.trans h2), if_pos (h1.trans h2), if_pos h2]; rfl
      · have h3 : ¬ p.1 = k := fun e => h2 (h1.symm.trans e)
        rw [if_neg h3, if_neg h3, if_neg h2]
    · rw [if_neg h1]
      by_cases h2 : p.1 = k
      · have h3 : ¬ k0 = k := fun e => h1 (h2.trans e.symm)
        rw [if_pos h2, if_neg h3, if_pos h2]
      · rw [if_neg h2, if_neg h2]
theorem lookN_app (l : List (NestedKey × Int)) (k0 : NestedKey) (n : Int) (k : NestedKey) (h : lookN l k0 = none) : lookN (l ++ [(k0, n)]) k = if k0 = k then some n else lookN l k := by
  induction l with
  | nil => rw [List.nil_append, lookN_cons]
  | cons p l ih =>
    rw [lookN_cons] at h
    by_cases e : p.1 = k0
    · rw [if_pos e] at h; cases h
    · rw [if_neg e] at h
      rw [List.cons_append, lookN_cons, lookN_cons, ih h]
      by_cases h2 : p.1 = k
      · have h3 : ¬ k0 = k := fun e' => e (h2.trans e'.symm)
        rw [if_pos h2, if_neg h3, if_pos h2]
      · rw [if_neg h2, if_neg h2]
theorem lookN_put (l : List (NestedKey × Int)) (k0 : NestedKey) (n : Int) (k : NestedKey) : lookN (putN l k0 n) k = if k0 = k then some n else lookN l k := by
  unfold putN
  cases e : lookN l k0 with
  | some m =>
    show lookN (if true = true then _ else _) k = _
    rw [if_pos rfl, lookN_map]
    by_cases h : k0 = k
    · subst h
      rw [if_pos rfl, if_pos rfl, e]
      rfl
    · rw [if_neg h, if_neg h]
  | none =>
    show lookN (if false = true then _ else _) k = _
    rw [if_neg Bool.false_ne_true]
    exact lookN_app l k0 n k e
theorem look_fold (k : NestedKey) : ∀ (l a : List (NestedKey × Int)), lookN (l.foldl (fun d p => putN d p.1 ((lookN d p.1).getD 0 + p.2)) a) k = if k ∈ l.map (·.1) then some ((lookN a k).getD 0 + cnt l k) else lookN a k
  | [], a => by rw [if_neg (by simp)]; rfl
  | p :: l, a => by
    rw [List.foldl_cons, look_fold k l, lookN_put, cnt_cons]
    by_cases h : p.1 = k
    · subst h
      rw [if_pos rfl, if_pos rfl, if_pos (show p.1 ∈ (p :: l).map (·.1) from List.mem_cons_self ..)]
      by_cases h2 : p.1 ∈ l.map (·.1)
      · rw [if_pos h2, Option.getD_some, Int.add_assoc]
      · rw [if_neg h2]
        have : cnt l p.1 = 0 := by
          clear a
          induction l with
          | nil => rfl
          | cons q l ih =>
            rw [List.map_cons, List.mem_cons, not_or] at h2
            rw [cnt_cons, if_neg (fun e => h2.1 e.symm), ih h2.2]
            rfl
        rw [this, Int.add_zero]
    · rw [if_neg h, if_neg h]
      have hm : (k ∈ (p :: l).map (·.1)) ↔ k ∈ l.map (·.1) := by
        rw [List.map_cons, List.mem_cons]
        exact ⟨fun z => z.elim (fun e => absurd e.symm h) id, .inr⟩
      by_cases h2 : k ∈ l.map (·.1)
      · rw [if_pos h2, if_pos (hm.mpr h2), Int.zero_add]
      · rw [if_neg h2, if_neg (fun z => h2 (hm.mp z))]
theorem look_totals (l : List (NestedKey × Int)) (k : NestedKey) : lookN (totals l) k = if k ∈ l.map (·.1) then some (cnt l k) else none := by
  have := look_fold k l []
  unfold totals
  rw [this]
  show (if _ then some (0 + cnt l k) else none) = _
  rw [Int.zero_add]
theorem look_mem {kvs : List (NestedKey × Int)} {k : NestedKey} : k ∈ kvs.map (·.1) ↔ (lookN kvs k).isSome = true := by
  constructor
  · intro h
    obtain ⟨n, e⟩ := lookN_some h
    rw [e]; rfl
  · intro h
    cases e : lookN kvs k with
    | none => rw [e] at h; cases h
    | some n =>
      unfold lookN at e
      cases e2 : kvs.find? (fun p => decide (p.1 = k)) with
      | none => rw [e2] at e; cases e
      | some p =>
        have h1 := List.mem_of_find?_eq_some e2
        have h2 := List.find?_some e2
        exact List.mem_map.mpr ⟨p, h1, of_decide_eq_true h2⟩
theorem totals_mem (l : List (NestedKey × Int)) (k : NestedKey) : k ∈ (totals l).map (·.1) ↔ k ∈ l.map (·.1) := by
  rw [look_mem, look_totals]
  by_cases h : k ∈ l.map (·.1)
  · rw [if_pos h]; exact ⟨fun _ => h, fun _ => rfl⟩
  · rw [if_neg h]; exact ⟨(fun z => nomatch z), fun z => absurd z h⟩
theorem KLt.asymm {a b : NestedKey} (h : KLt a b) (h' : KLt b a) : a = b := by
  have := PyProof.Rows.lex_trans (O := itemOrd) _ _ _ h h'
  rw [PyProof.Rows.lex_irrefl] at this
  cases this
theorem settle_perm {l m : List (NestedKey × Int)} (h : l.Perm m) (hK : KeysOk (l.map (·.1))) : settle l = settle m := by
  have hm : ∀ k, k ∈ l.map (·.1) ↔ k ∈ m.map (·.1) := fun k => (h.map _).mem_iff
  have hK2 : KeysOk (m.map (·.1)) := hK.sub fun k hk => (hm k).mpr hk
  have hs1 := sorted_asc (totals_nodup l) (fun a ha b hb => hK.alk a (totals_keys l a ha) b (totals_keys l b hb))
  have hs2 := sorted_asc (totals_nodup m) (fun a ha b hb => hK2.alk a (totals_keys m a ha) b (totals_keys m b hb))
  have hp : (sortedKeys (totals l)).Perm (sortedKeys (totals m)) := by
    refine (List.mergeSort_perm _ _).trans (List.Perm.trans ?_ (List.mergeSort_perm _ _).symm)
    refine (List.perm_ext_iff_of_nodup (totals_nodup l) (totals_nodup m)).mpr fun k => ?_
    rw [totals_mem, totals_mem]
    exact hm k
  have e1 : sortedKeys (totals l) = sortedKeys (totals m) := List.Perm.eq_of_pairwise (fun a b _ _ x y => KLt.asymm x y) hs1 hs2 hp
  have e2 : pick (totals l) = pick (totals m) := by
    funext k
    unfold pick
    rw [look_totals, look_totals, cnt_perm h k]
    by_cases hk : k ∈ l.map (·.1)
    · rw [if_pos hk, if_pos ((hm k).mp hk)]
    · rw [if_neg hk, if_neg (fun z => hk ((hm k).mpr z))]
  unfold settle
  rw [e1, e2]
def tot (l : List (NestedKey × Int)) : Nat := (l.map fun p => p.2.natAbs).sum
theorem cnt_le (l : List (NestedKey × Int)) (k : NestedKey) : (cnt l k).natAbs ≤ tot l := by
  induction l with
  | nil => exact Nat.le_refl _
  | cons p l ih =>
    have e : tot (p :: l) = p.2.natAbs + tot l := by unfold tot; rw [List.map_cons, List.sum_cons]
    rw [cnt_cons, e]
    split <;> omega
theorem settle_cnt {l : List (NestedKey × Int)} {p : NestedKey × Int} (h : p ∈ settle l) : p.2 = cnt l p.1 := by
  obtain ⟨k, hk, hp⟩ := List.mem_filterMap.mp h
  have hm := totals_keys l k (sortedKeys_mem.mp hk)
  unfold pick at hp
  rw [look_totals, if_pos hm] at hp
  simp only at hp
  split at hp
  · cases hp
  · cases hp; rfl
theorem settle_bd {l : List (NestedKey × Int)} {p : NestedKey × Int} (h : p ∈ settle l) : p.2.natAbs ≤ tot l := by
  rw [settle_cnt h]
  exact cnt_le l p.1
theorem tot_le {l : List (NestedKey × Int)} {n : Nat} (h : ∀ z ∈ l, z.2.natAbs ≤ n) : tot l ≤ l.length * n := by
  induction l with
  | nil => exact Nat.zero_le _
  | cons p l ih =>
    have e : tot (p :: l) = p.2.natAbs + tot l := by unfold tot; rw [List.map_cons, List.sum_cons]
    have := h p (List.mem_cons_self ..)
    have := ih fun z hz => h z (List.mem_cons_of_mem _ hz)
    rw [e, List.length_cons, Nat.succ_mul]
    omega
end

section
open PySem.W PySem.Calls
/-! ### products of sums -/
def rmul (a b : NestedKey) : NestedKey := rowK (settle (unrow a ++ unrow b))
def prodRow (p : NestedKey × Int) (M : List (NestedKey × Int)) : List (NestedKey × Int) := M.map fun q => (rmul p.1 q.1, p.2 * q.2)
def prod (L M : List (NestedKey × Int)) : List (NestedKey × Int) := L.flatMap fun p => prodRow p M
theorem perm_split {α β : Type} (g : α → β) (h : α → List β) : ∀ M : List α, (M.map g ++ M.flatMap h).Perm (M.flatMap fun q => g q :: h q)
  | [] => List.Perm.refl _
  | q :: M => by
    rw [List.map_cons, List.flatMap_cons, List.flatMap_cons, List.cons_append, List.cons_append]
    refine List.Perm.cons _ ?_
    refine (List.perm_append_comm_assoc _ _ _).trans ?_
    exact List.Perm.append_left _ (perm_split g h M)
theorem perm_swap2 {α β γ : Type} (f : α → β → γ) : ∀ (L : List α) (M : List β), (L.flatMap fun p => M.map (f p)).Perm (M.flatMap fun q => L.map fun p => f p q)
  | [], M => by
    rw [List.flatMap_nil]
    have : (M.flatMap fun q => ([] : List α).map fun p => f p q) = [] := by simp
    rw [this]
  | p :: L, M => by
    rw [List.flatMap_cons]
    refine (List.Perm.append_left _ (perm_swap2 f L M)).trans ?_
    exact perm_split (f p) (fun q => L.map fun p => f p q) M
theorem row_marks {l m : List (NestedKey × Int)} (hl : RowOk l) (hm : RowOk m) : ∀ z ∈ l ++ m, IsMark z.1 := fun z hz => by
  rcases List.mem_append.mp hz with hz | hz
  · exact hl.rk z hz
  · exact hm.rk z hz
theorem row_keys {l m : List (NestedKey × Int)} (hl : RowOk l) (hm : RowOk m) : KeysOk ((l ++ m).map (·.1)) := keysMark fun k hk => by
  obtain ⟨z, hz, rfl⟩ := List.mem_map.mp hk
  exact row_marks hl hm z hz
theorem rmul_comm {a b : NestedKey} (ha : IsRow a) (hb : IsRow b) : rmul a b = rmul b a := by
  obtain ⟨l, rfl, hl⟩ := ha
  obtain ⟨m, rfl, hm⟩ := hb
  unfold rmul
  rw [unrow_row, unrow_row]
  rw [settle_perm List.perm_append_comm (row_keys hl hm)]
theorem flat_congr {α β : Type} {f g : α → List β} : ∀ {M : List α}, (∀ q ∈ M, f q = g q) → M.flatMap f = M.flatMap g
  | [], _ => rfl
  | q :: M, h => by
    rw [List.flatMap_cons, List.flatMap_cons, h q (List.mem_cons_self ..), flat_congr fun x hx => h x (List.mem_cons_of_mem _ hx)]
theorem prod_perm {L M : List (NestedKey × Int)} (hL : ∀ p ∈ L, IsRow p.1) (hM : ∀ p ∈ M, IsRow p.1) : (prod L M).Perm (prod M L) := by
  have h1 := perm_swap2 (fun (p q : NestedKey × Int) => (rmul p.1 q.1, p.2 * q.2)) L M
  have h2 : (M.flatMap fun q => L.map fun p => (rmul p.1 q.1, p.2 * q.2)) = prod M L := by
    unfold prod prodRow
    refine flat_congr fun q hq => ?_
    refine List.map_congr_left fun p hp => ?_
    rw [rmul_comm (hL p hp) (hM q hq), Int.mul_comm]
  exact h1.trans (by rw [h2])
end

/-! ### rows multiplied -/
def PlT (_ : PySem.W.Frag) (H : Hp) (a : Addr) (xs : List V) : Prop := H a = some (.tup xs)
/-- tuples stay -/
def TupK (H H' : Hp) : Prop := ∀ c zs, H c = some (.tup zs) → H' c = some (.tup zs)
theorem Same.tk {H H' : Hp} (s : Same H H') : TupK H H' := fun c zs e => s c _ e
theorem prAllT {H H' : Hp} (s : TupK H H') : ∀ {l : List (NestedKey × Int)} {xs : List V}, PrAll H l xs → PrAll H' l xs
  | _, _, .nil => .nil
  | _, _, .cons a b c => .cons (s _ _ a) (nkTup s _ _ b) (prAllT s c)
theorem tupk_put {H0 H2 H4 : Hp} {d : Addr} {kvs : List (NestedKey × Int)} (s : TupK H0 H2) (D : DN P w H2 d kvs) (k : ∀ c u, c ≠ d → H2 c = some u → H4 c = some u) : TupK H0 H4 := fun c zs e => by
  obtain ⟨xs, h1, _⟩ := D.ex
  exact k c _ (ne_of (s c zs e) h1 (fun z => nomatch z)) (s c zs e)
theorem catA_read {H : Hp} {a b : Addr} {xs ys : List V} {l m : List (NestedKey × Int)} {Q : VK} (ha : H a = some (.tup xs)) (hb : H b = some (.tup ys)) (pl : PrAll H l xs) (pm : PrAll H m ys) (hn : l.length + m.length ≤ 10000)
    (k : ∀ c H' zs, Same H H' → H' c = some (.tup zs) → PrAll H' (l ++ m) zs → Q (.ref c) H') : rCatA K (.ref a) (.ref b) H Q := by
  have h1 := pl.length
  have h2 := pm.length
  have h4 : (20000 : Nat) < sizeLine := by decide
  refine ⟨a, b, xs, ys, rfl, rfl, .inl (.inl ha), .inl (.inl hb), by omega, fun e => ?_, fun _ e => ?_, fun _ _ p hp => ?_⟩
  · subst e
    have : l = [] := List.eq_nil_of_length_eq_zero (by rw [← h1]; rfl)
    subst this
    exact k b H ys (Same.refl H) hb pm
  · subst e
    have : m = [] := List.eq_nil_of_length_eq_zero (by rw [← h2]; rfl)
    subst this
    exact k a H xs (Same.refl H) ha (by rw [List.append_nil]; exact pl)
  · exact k p _ _ (same_new hp) upd_same ((pl.app pm).mono (same_new hp))
def sp_rt : Sp := fun vs H Q _ => ∃ (a b : Addr) (xs ys : List V) (l m : List (NestedKey × Int)), vs = [.ref a, .ref b] ∧ H a = some (.tup xs) ∧ H b = some (.tup ys) ∧ PrAll H l xs ∧ PrAll H m ys ∧ l.length + m.length ≤ 10000 ∧ KeysOk ((l ++ m).map (·.1)) ∧
  ∀ H' q zs, Same H H' → H' q = some (.tup zs) → PrAll H' (settle (l ++ m)) zs → Q (.ref q) H'

theorem ok__law_settled (T : Env K mg) : FnOk P w K mg base CX0 1 T.a__law_settled T.fd__law_settled ["_law_terms"] (sp_gath K SqL) := by
  refine T.F__law_settled.ok sc__law_settled (fun vs H Q E h => ?_) (fun cdv A outer s H vs Q E hr h => ?_)
  · obtain ⟨p, xs, l, rfl, _⟩ := h
    rfl
  · obtain ⟨p, xs, l, rfl, hS, hP, hlen, hK, kq⟩ := h
    refine ⟨_, (pss_cons (ps_set (i := 1) sc__law_settled.nd rfl (.inr rfl) (pe_dnewN (P := P) (w := w) rfl rfl))
 (pss_cons (ps_for PassesOwn.never rfl (pi_list (pv 0)) (pg_tup rfl (pgs_cons (pg_name (i := 2) sc__law_settled.nd rfl (.inl rfl)) (pgs_cons (pg_name (i := 3) sc__law_settled.nd rfl (.inl rfl)) pgs_nil)))
 (pss_one (ps_putN (P := P) (w := w) rfl rfl (by exact hr.units) (pv 1) (pv 2) (pe_op op_add (pe_getN (P := P) (w := w) rfl rfl (by exact hr.units) (pv 1) (pv 2) pe_int ⟨rfl, rfl, rfl, rfl⟩) (pv 3)) rfl)))
 (pss_one (ps_ret (pe_lc (own := [("_law_row", 2)]) (by rfl) sc__law_settled.nd (pi_list (pe_callB (cr_sortedN rfl (by exact hr.units)) (by rfl) T.m_sorted (by decide +kernel) (pa_cons (pe_keysN (pv 1)) pa_nil))) (blkOk_by (own := [("_law_row", 2)]) (N := ["_law_terms", "_law_counts", "_law_row", "_law_count"]) (sc := defScope s__law_settled) (by decide +kernel)) (fun _ _ _ _ _ => (pg_name (i := 2) sc__law_settled.nd rfl (.inl rfl))) (fun _ _ _ _ _ => (pts_one (pt_cmpR op_ne (pe_itemN (P := P) (w := w) rfl rfl (by exact hr.units) (pv 1) (pv 2) (fun _ _ => rfl)) pe_int (nomark _)))) (fun _ _ _ _ _ => (pe_tup (pa_cons (pv 2) (pa_cons (pe_itemN (P := P) (w := w) rfl rfl (by exact hr.units) (pv 1) (pv 2) (fun _ _ => rfl)) pa_nil))))))))), ?_⟩
    -- the dict, empty
    refine fun d hd hm => ?_
    have s1 := same_new (o := kdO P w d []) hd
    have D1 : DN P w (upd H d (kdO P w d [])) d [] := dn_new hm
    generalize upd H d (kdO P w d []) = H1 at *
    have hKt : ∀ m : List (NestedKey × Int), (∀ z ∈ m.map (·.1), z ∈ l.map (·.1)) → KeysOk ((totals m).map (·.1)) := fun m hm => hK.sub fun z hz => hm z (totals_keys m z hz)
    refine ⟨_, rfl, p, rfl, ⟨_, s1.seq hS⟩, for_list (K := K) (a := p) (xs := xs) (fun i σ H' => ∃ y2 y3, σ = [some (.ref p), some (.ref d), y2, y3] ∧ Same H H' ∧ DN P w H' d (totals (l.take i)))
      ⟨_, _, rfl, s1, by rw [List.take_zero]; exact D1⟩ (fun i σ H' _ ⟨_, _, _, s2, _⟩ => s2.seq hS) ?_ ?_⟩
    · rintro i x σ H2 hi ⟨y2, y3, rfl, s2, D2⟩
      obtain ⟨k, n, t, b, hl, rfl, ht, hb⟩ := hP.at hi
      have hk8 := hK.dep k (List.mem_map.mpr ⟨_, List.mem_of_getElem? hl, rfl⟩)
      have hb2 := Nk.mono s2 _ _ hb
      have hsm : (totals (l.take i)).length < 100000 := by
        have h1 := totals_len (l.take i)
        rw [List.length_take] at h1
        omega
      refine ⟨t, _, rfl, .inl (.inl (s2 _ _ ht)), rfl, _, _, rfl, _, _, rfl, rfl, ?_⟩
      refine ⟨_, rfl, d, _, rfl, D2, _, rfl, _, k, b, 0, D2, rfl, hb2, hk8, rfl, _, rfl, _, _, rfl, rfl, _, rfl, _, rfl, d, _, k, b, _, rfl, rfl, D2, rfl, hb2, hk8, hsm, fun H4 D4 k4 _ => ?_⟩
      refine ⟨_, _, rfl, same_of_put s2 hd k4, ?_⟩
      rw [take_more' hl, totals_more]
      exact D4
    · rintro σ H2 ⟨y2, y3, rfl, s2, D2⟩
      have hx := hP.length
      rw [hx, List.take_length] at D2
      have hKs := hKt l (fun z hz => hz)
      -- the keys in order
      refine ⟨_, rfl, d, _, rfl, D2, fun v hv => ?_⟩
      have sv := same_new (o := keysO v d) hv
      have fv : (upd H2 v (keysO v d)) v = some (keysO v d) := upd_same
      have D3 := D2.mono sv
      have s3 := s2.trans sv
      generalize upd H2 v (keysO v d) = H3 at *
      refine ⟨v, d, _, rfl, .inr fv, D3, ?_, ?_, ?_, fun q ys hq hN => ?_⟩
      · exact fun p hp => hKs.tup _ (List.mem_map_of_mem hp)
      · exact fun p hp p' hp' => hKs.alk _ (List.mem_map_of_mem hp) _ (List.mem_map_of_mem hp')
      · exact fun p hp => hKs.dep2 _ (List.mem_map_of_mem hp)
      have s4 := same_new (o := .lst ys) hq
      have hq4 : (upd H3 q (.lst ys)) q = some (.lst ys) := upd_same
      have D4 := D3.mono s4
      have hN4 : NkAll (upd H3 q (.lst ys)) (sortedKeys (totals l)) ys := NkAll.mono s4 _ _ hN
      have s5 := s3.trans s4
      generalize upd H3 q (.lst ys) = H5 at *
      refine ⟨q, rfl, ⟨_, .inl (.inl hq4)⟩, fun D hD => ?_⟩
      have nD : H D = none := s5.free hD
      refine lc_list (K := K) (a := q) (xs := ys) (fun i H' => ∃ zs, H' D = some (.lst zs) ∧ PrAll H' (((sortedKeys (totals l)).take i).filterMap (pick (totals l))) zs ∧ Same H5 H') ?_ ?_ ?_ ?_
      · refine ⟨[], upd_same, ?_, same_new hD⟩
        rw [List.take_zero]
        exact .nil
      · rintro i H' _ ⟨zs, _, _, s6⟩
        exact .inl (.inl (s6 _ _ hq4))
      · rintro i x H' hi ⟨zs, hz, hPz, s6⟩
        obtain ⟨k, hk, hkx⟩ := NkAll.at hN4 hi
        have hmem : k ∈ (totals l).map (·.1) := sortedKeys_mem.mp (List.mem_of_getElem? hk)
        obtain ⟨n, hn⟩ := lookN_some hmem
        obtain ⟨kl, rfl⟩ := hKs.tup k hmem
        obtain ⟨b, rfl⟩ := nk_ref hkx
        have hk8 := hKs.dep _ hmem
        have D6 := D4.mono s6
        have hb6 := Nk.mono s6 _ _ hkx
        have hzl : zs.length < sizeLine := by
          have h1 := hPz.length
          have h2 : ((((sortedKeys (totals l)).take i).filterMap (pick (totals l)))).length ≤ ((sortedKeys (totals l)).take i).length := List.length_filterMap_le _ _
          rw [List.length_take, sortedKeys_len] at h2
          have h3 := totals_len l
          have h4 : (20000 : Nat) < sizeLine := by decide
          omega
        refine ⟨rfl, _, rfl, _, rfl, d, _, _, b, n, rfl, D6, rfl, hb6, hk8, hn, rfl, _, rfl, ?_⟩
        have hf := filterMap_more (pick (totals l)) hk
        by_cases h0 : n = 0
        · have e0 : pick (totals l) (.tup kl) = none := by unfold pick; rw [hn]; show (if n = 0 then none else _) = none; rw [if_pos h0]
          rw [h0]
          refine iteF ?_
          refine ⟨zs, hz, ?_, s6⟩
          rw [hf, e0, Option.toList_none, List.append_nil]
          exact hPz
        · have e0 : pick (totals l) (.tup kl) = some (.tup kl, n) := by unfold pick; rw [hn]; show (if n = 0 then none else _) = _; rw [if_neg h0]
          rw [decide_eq_false (show ¬ V.int n = V.int 0 from fun z => h0 (V.int.inj z))]
          refine iteT ?_
          refine ⟨_, rfl, _, rfl, _, rfl, d, _, _, b, n, rfl, D6, rfl, hb6, hk8, hn, (by show 2 ≤ sizeLine; decide), fun t nt => ?_⟩
          have s7 := same_new (o := .tup [.ref b, .int n]) nt
          have ht7 : (upd H' t (.tup [.ref b, .int n])) t = some (.tup [.ref b, .int n]) := upd_same
          generalize upd H' t (.tup [.ref b, .int n]) = H7 at *
          have hD7 := s7 _ _ hz
          refine ⟨zs, hD7, hzl, zs ++ [.ref t], upd_same, ?_, ?_⟩
          · rw [hf, e0]
            have s8 : Same7 D H7 (upd H7 D (.lst (zs ++ [V.ref t]))) := fun c u hc e => by rw [upd_ne hc]; exact e
            refine (prAllD hD7 s8 (hPz.mono s7)).app (.cons (b := b) ?_ ?_ .nil)
            · rw [upd_ne (ne_of ht7 hD7 (fun z => nomatch z))]; exact ht7
            · exact nkTup (fun c zs' e => by rw [upd_ne (ne_of e hD7 (fun z => nomatch z))]; exact e) _ _ (Nk.mono s7 _ _ hb6)
          · intro c u e
            have hc : c ≠ D := ne_of_none e hD
            rw [upd_ne hc]
            exact s7 _ _ (s6 _ _ e)
      · rintro H' ⟨zs, hz, hPz, s6⟩
        rw [show ys.length = (sortedKeys (totals l)).length from NkAll.length hN4, List.take_length] at hPz
        exact kq H' D zs (s5.trans s6) nD hz hPz

theorem ok__law_row_times (T : Env K mg) : FnOk P w K mg base CX0 1 T.a__law_row_times T.fd__law_row_times ["_law_one", "_law_other"] sp_rt := by
  refine T.F__law_row_times.ok sc__law_row_times (fun vs H Q E h => ?_) (fun cdv A outer s H vs Q E hr h => ?_)
  · obtain ⟨p1, p2, xs1, xs2, l1, l2, rfl, _⟩ := h
    rfl
  · obtain ⟨p1, p2, xs1, xs2, l1, l2, rfl, hS1, hS2, hP1, hP2, hlen, hK, kq⟩ := h
    generalize hl12 : l1 ++ l2 = l at *
    replace hlen : l.length ≤ 10000 := by rw [← hl12, List.length_append]; exact hlen
    refine ⟨_, (pss_cons (ps_set (i := 2) sc__law_row_times.nd rfl (.inr rfl) (pe_dnewN (P := P) (w := w) rfl rfl))
 (pss_cons (ps_for PassesOwn.never rfl (pi_tup (pe_op op_catA (pv 0) (pv 1))) (pg_tup rfl (pgs_cons (pg_name (i := 3) sc__law_row_times.nd rfl (.inl rfl)) (pgs_cons (pg_name (i := 4) sc__law_row_times.nd rfl (.inl rfl)) pgs_nil)))
 (pss_one (ps_putN (P := P) (w := w) rfl rfl (by exact hr.units) (pv 2) (pv 3) (pe_op op_add (pe_getN (P := P) (w := w) rfl rfl (by exact hr.units) (pv 2) (pv 3) pe_int ⟨rfl, rfl, rfl, rfl⟩) (pv 4)) rfl)))
 (pss_one (ps_ret (pe_tupleOf (by rfl) T.m_tuple (pe_lc (own := [("_law_mark", 3)]) (by rfl) sc__law_row_times.nd (pi_list (pe_callB (cr_sortedN rfl (by exact hr.units)) (by rfl) T.m_sorted (by decide +kernel) (pa_cons (pe_keysN (pv 2)) pa_nil))) (blkOk_by (own := [("_law_mark", 3)]) (N := ["_law_one", "_law_other", "_law_powers", "_law_mark", "_law_power"]) (sc := defScope s__law_row_times) (by decide +kernel)) (fun _ _ _ _ _ => (pg_name (i := 3) sc__law_row_times.nd rfl (.inl rfl))) (fun _ _ _ _ _ => (pts_one (pt_cmpR op_ne (pe_itemN (P := P) (w := w) rfl rfl (by exact hr.units) (pv 2) (pv 3) (fun _ _ => rfl)) pe_int (nomark _)))) (fun _ _ _ _ _ => (pe_tup (pa_cons (pv 3) (pa_cons (pe_itemN (P := P) (w := w) rfl rfl (by exact hr.units) (pv 2) (pv 3) (fun _ _ => rfl)) pa_nil)))))))))), ?_⟩
    -- the dict, empty
    refine fun d hd hm => ?_
    have s1 := same_new (o := kdO P w d []) hd
    have D1 : DN P w (upd H d (kdO P w d [])) d [] := dn_new hm
    generalize upd H d (kdO P w d []) = H1 at *
    have hKt : ∀ m : List (NestedKey × Int), (∀ z ∈ m.map (·.1), z ∈ l.map (·.1)) → KeysOk ((totals m).map (·.1)) := fun m hm => hK.sub fun z hz => hm z (totals_keys m z hz)
    refine ⟨_, rfl, _, rfl, ?_⟩
    refine catA_read (s1 _ _ hS1) (s1 _ _ hS2) (hP1.mono s1) (hP2.mono s1) (by rw [← List.length_append, hl12]; exact hlen) fun p HA xs sA hS hP => ?_
    replace D1 := D1.mono sA
    replace s1 := s1.trans sA
    rw [hl12] at hP
    clear hP1 hP2
    refine ⟨p, rfl, ⟨_, .inl (.inl hS)⟩, for_tup (K := K) (a := p) (xs := xs) (fun i σ H' => ∃ y2 y3, σ = [some (.ref p1), some (.ref p2), some (.ref d), y2, y3] ∧ TupK HA H' ∧ Same H H' ∧ DN P w H' d (totals (l.take i)))
      ⟨_, _, rfl, fun _ _ e => e, s1, by rw [List.take_zero]; exact D1⟩ (fun i σ H' _ ⟨_, _, _, sB, s2, _⟩ => (.inl (.inl (sB _ _ hS)))) ?_ ?_⟩
    · rintro i x σ H2 hi ⟨y2, y3, rfl, sB, s2, D2⟩
      obtain ⟨k, n, t, b, hl, rfl, ht, hb⟩ := hP.at hi
      have hk8 := hK.dep k (List.mem_map.mpr ⟨_, List.mem_of_getElem? hl, rfl⟩)
      have hb2 := nkTup sB _ _ hb
      have hsm : (totals (l.take i)).length < 100000 := by
        have h1 := totals_len (l.take i)
        rw [List.length_take] at h1
        omega
      refine ⟨t, _, rfl, .inl (.inl (sB _ _ ht)), rfl, _, _, rfl, _, _, rfl, rfl, ?_⟩
      refine ⟨_, rfl, d, _, rfl, D2, _, rfl, _, k, b, 0, D2, rfl, hb2, hk8, rfl, _, rfl, _, _, rfl, rfl, _, rfl, _, rfl, d, _, k, b, _, rfl, rfl, D2, rfl, hb2, hk8, hsm, fun H4 D4 k4 _ => ?_⟩
      refine ⟨_, _, rfl, tupk_put sB D2 k4, same_of_put s2 hd k4, ?_⟩
      rw [take_more' hl, totals_more]
      exact D4
    · rintro σ H2 ⟨y2, y3, rfl, sB, s2, D2⟩
      have hx := hP.length
      rw [hx, List.take_length] at D2
      have hKs := hKt l (fun z hz => hz)
      -- the keys in order
      refine ⟨_, rfl, d, _, rfl, D2, fun v hv => ?_⟩
      have sv := same_new (o := keysO v d) hv
      have fv : (upd H2 v (keysO v d)) v = some (keysO v d) := upd_same
      have D3 := D2.mono sv
      have s3 := s2.trans sv
      generalize upd H2 v (keysO v d) = H3 at *
      refine ⟨v, d, _, rfl, .inr fv, D3, ?_, ?_, ?_, fun q ys hq hN => ?_⟩
      · exact fun p hp => hKs.tup _ (List.mem_map_of_mem hp)
      · exact fun p hp p' hp' => hKs.alk _ (List.mem_map_of_mem hp) _ (List.mem_map_of_mem hp')
      · exact fun p hp => hKs.dep2 _ (List.mem_map_of_mem hp)
      have s4 := same_new (o := .lst ys) hq
      have hq4 : (upd H3 q (.lst ys)) q = some (.lst ys) := upd_same
      have D4 := D3.mono s4
      have hN4 : NkAll (upd H3 q (.lst ys)) (sortedKeys (totals l)) ys := NkAll.mono s4 _ _ hN
      have s5 := s3.trans s4
      generalize upd H3 q (.lst ys) = H5 at *
      refine ⟨q, rfl, ⟨_, .inl (.inl hq4)⟩, fun D hD => ?_⟩
      have nD : H D = none := s5.free hD
      refine lc_list (K := K) (a := q) (xs := ys) (fun i H' => ∃ zs, H' D = some (.lst zs) ∧ PrAll H' (((sortedKeys (totals l)).take i).filterMap (pick (totals l))) zs ∧ Same H5 H') ?_ ?_ ?_ ?_
      · refine ⟨[], upd_same, ?_, same_new hD⟩
        rw [List.take_zero]
        exact .nil
      · rintro i H' _ ⟨zs, _, _, s6⟩
        exact .inl (.inl (s6 _ _ hq4))
      · rintro i x H' hi ⟨zs, hz, hPz, s6⟩
        obtain ⟨k, hk, hkx⟩ := NkAll.at hN4 hi
        have hmem : k ∈ (totals l).map (·.1) := sortedKeys_mem.mp (List.mem_of_getElem? hk)
        obtain ⟨n, hn⟩ := lookN_some hmem
        obtain ⟨kl, rfl⟩ := hKs.tup k hmem
        obtain ⟨b, rfl⟩ := nk_ref hkx
        have hk8 := hKs.dep _ hmem
        have D6 := D4.mono s6
        have hb6 := Nk.mono s6 _ _ hkx
        have hzl : zs.length < sizeLine := by
          have h1 := hPz.length
          have h2 : ((((sortedKeys (totals l)).take i).filterMap (pick (totals l)))).length ≤ ((sortedKeys (totals l)).take i).length := List.length_filterMap_le _ _
          rw [List.length_take, sortedKeys_len] at h2
          have h3 := totals_len l
          have h4 : (20000 : Nat) < sizeLine := by decide
          omega
        refine ⟨rfl, _, rfl, _, rfl, d, _, _, b, n, rfl, D6, rfl, hb6, hk8, hn, rfl, _, rfl, ?_⟩
        have hf := filterMap_more (pick (totals l)) hk
        by_cases h0 : n = 0
        · have e0 : pick (totals l) (.tup kl) = none := by unfold pick; rw [hn]; show (if n = 0 then none else _) = none; rw [if_pos h0]
          rw [h0]
          refine iteF ?_
          refine ⟨zs, hz, ?_, s6⟩
          rw [hf, e0, Option.toList_none, List.append_nil]
          exact hPz
        · have e0 : pick (totals l) (.tup kl) = some (.tup kl, n) := by unfold pick; rw [hn]; show (if n = 0 then none else _) = _; rw [if_neg h0]
          rw [decide_eq_false (show ¬ V.int n = V.int 0 from fun z => h0 (V.int.inj z))]
          refine iteT ?_
          refine ⟨_, rfl, _, rfl, _, rfl, d, _, _, b, n, rfl, D6, rfl, hb6, hk8, hn, (by show 2 ≤ sizeLine; decide), fun t nt => ?_⟩
          have s7 := same_new (o := .tup [.ref b, .int n]) nt
          have ht7 : (upd H' t (.tup [.ref b, .int n])) t = some (.tup [.ref b, .int n]) := upd_same
          generalize upd H' t (.tup [.ref b, .int n]) = H7 at *
          have hD7 := s7 _ _ hz
          refine ⟨zs, hD7, hzl, zs ++ [.ref t], upd_same, ?_, ?_⟩
          · rw [hf, e0]
            have s8 : Same7 D H7 (upd H7 D (.lst (zs ++ [V.ref t]))) := fun c u hc e => by rw [upd_ne hc]; exact e
            refine (prAllD hD7 s8 (hPz.mono s7)).app (.cons (b := b) ?_ ?_ .nil)
            · rw [upd_ne (ne_of ht7 hD7 (fun z => nomatch z))]; exact ht7
            · exact nkTup (fun c zs' e => by rw [upd_ne (ne_of e hD7 (fun z => nomatch z))]; exact e) _ _ (Nk.mono s7 _ _ hb6)
          · intro c u e
            have hc : c ≠ D := ne_of_none e hD
            rw [upd_ne hc]
            exact s7 _ _ (s6 _ _ e)
      · rintro H' ⟨zs, hz, hPz, s6⟩
        rw [show ys.length = (sortedKeys (totals l)).length from NkAll.length hN4, List.take_length] at hPz
        refine .inl ⟨D, zs, rfl, .inl (.inl hz), fun q2 hq2 => ?_⟩
        have s7 := same_new (o := .tup zs) hq2
        exact kq _ q2 zs ((s5.trans s6).trans s7) upd_same (hPz.mono s7)

/-! ### lists of pairs of whole numbers -/
inductive All2 {α β : Type} (R : α → β → Prop) : List α → List β → Prop
  | nil : All2 R [] []
  | cons {x : α} {y : β} {xs : List α} {ys : List β} : R x y → All2 R xs ys → All2 R (x :: xs) (y :: ys)
theorem All2.length {α β : Type} {R : α → β → Prop} {xs : List α} {ys : List β} (h : All2 R xs ys) : xs.length = ys.length := by
  induction h with
  | nil => rfl
  | cons _ _ ih => rw [List.length_cons, List.length_cons, ih]
theorem All2.mono {α β : Type} {R R' : α → β → Prop} {xs : List α} {ys : List β} (h : All2 R xs ys) (f : ∀ x y, R x y → R' x y) : All2 R' xs ys := by
  induction h with
  | nil => exact .nil
  | cons a _ ih => exact .cons (f _ _ a) ih
theorem All2.app {α β : Type} {R : α → β → Prop} {xs xs' : List α} {ys ys' : List β} (h : All2 R xs ys) (h' : All2 R xs' ys') : All2 R (xs ++ xs') (ys ++ ys') := by
  induction h with
  | nil => exact h'
  | cons a _ ih => exact .cons a ih
theorem All2.at {α β : Type} {R : α → β → Prop} {xs : List α} {ys : List β} (h : All2 R xs ys) : ∀ {i : Nat} {x : α}, xs[i]? = some x → ∃ y, ys[i]? = some y ∧ R x y := by
  induction h with
  | nil => intro i x e; cases e
  | cons a _ ih =>
    intro i x e
    cases i with
    | zero => obtain rfl := Option.some.inj e; exact ⟨_, rfl, a⟩
    | succ i => exact ih e
theorem All2.at' {α β : Type} {R : α → β → Prop} {xs : List α} {ys : List β} (h : All2 R xs ys) : ∀ {i : Nat} {y : β}, ys[i]? = some y → ∃ x, xs[i]? = some x ∧ R x y := by
  induction h with
  | nil => intro i x e; cases e
  | cons a _ ih =>
    intro i x e
    cases i with
    | zero => obtain rfl := Option.some.inj e; exact ⟨_, rfl, a⟩
    | succ i => exact ih e
theorem All2.take {α β : Type} {R : α → β → Prop} {xs : List α} {ys : List β} (h : All2 R xs ys) : ∀ i, All2 R (xs.take i) (ys.take i) := by
  induction h with
  | nil => intro i; rw [List.take_nil, List.take_nil]; exact .nil
  | cons a _ ih =>
    intro i
    cases i with
    | zero => exact .nil
    | succ i => exact .cons a (ih i)
theorem All2.drop {α β : Type} {R : α → β → Prop} {xs : List α} {ys : List β} (h : All2 R xs ys) : ∀ i, All2 R (xs.drop i) (ys.drop i) := by
  induction h with
  | nil => intro i; rw [List.drop_nil, List.drop_nil]; exact .nil
  | cons a t ih =>
    intro i
    cases i with
    | zero => exact .cons a t
    | succ i => exact ih i
theorem All2.one {α β : Type} {R : α → β → Prop} {x : α} {y : β} (h : R x y) : All2 R [x] [y] := .cons h .nil
def PrAt (K : PySem.W.Frag) (H : Hp) (x : V) (p : Int × Int) : Prop := ∃ t, x = V.ref t ∧ H t = some (.tup [.int p.1, .int p.2])
abbrev PrL (K : PySem.W.Frag) (H : Hp) (xs : List V) (l : List (Int × Int)) : Prop := All2 (PrAt K H) xs l
theorem PrAt.mono {H H' : Hp} {x : V} {p : Int × Int} (s : Same H H') (h : PrAt K H x p) : PrAt K H' x p := by
  obtain ⟨t, e, ht⟩ := h
  exact ⟨t, e, s _ _ ht⟩
theorem PrL.mono {H H' : Hp} {xs : List V} {l : List (Int × Int)} (s : Same H H') (h : PrL K H xs l) : PrL K H' xs l := All2.mono h fun _ _ q => q.mono s
/-- all tuples of H stand in H' -/
def TupS (H H' : Hp) : Prop := ∀ t xs, H t = some (.tup xs) → H' t = some (.tup xs)
theorem TupS.of {H H' : Hp} (s : Same H H') : TupS H H' := fun t xs e => s _ _ e
theorem TupS.trans {H H' H2 : Hp} (s : TupS H H') (s' : TupS H' H2) : TupS H H2 := fun t xs e => s' _ _ (s _ _ e)
theorem TupS.put {H : Hp} {p : Addr} {xs : List V} {o : HO} (h : H p = some (.lst xs)) : TupS H (upd H p o) := fun t ys e => by
  rw [upd_ne (ne_of e h (fun z => nomatch z))]
  exact e
theorem PrL.tups {H H' : Hp} {xs : List V} {l : List (Int × Int)} (s : TupS H H') (h : PrL K H xs l) : PrL K H' xs l := All2.mono h fun _ _ ⟨t, e, ht⟩ => ⟨t, e, s _ _ ht⟩
theorem PrAt.sq {H : Hp} {x : V} {p : Int × Int} (h : PrAt K H x p) : ∃ t, x = V.ref t ∧ SqT K H t [.int p.1, .int p.2] := by
  obtain ⟨t, e, ht⟩ := h
  exact ⟨t, e, .inl (.inl ht)⟩
/-! pairs in order -/
def le2 (p q : Int × Int) : Prop := p.1 < q.1 ∨ (p.1 = q.1 ∧ p.2 ≤ q.2)
instance (p q : Int × Int) : Decidable (le2 p q) := by unfold le2; exact inferInstance
theorem le2_anti {p q : Int × Int} (h : le2 p q) (h' : le2 q p) : p = q := by
  unfold le2 at h h'
  exact Prod.ext (by omega) (by omega)
theorem le2_total (p q : Int × Int) : le2 p q ∨ le2 q p := by unfold le2; omega
theorem le2_trans {p q r : Int × Int} (h : le2 p q) (h' : le2 q r) : le2 p r := by unfold le2 at *; omega
def sort2 (l : List (Int × Int)) : List (Int × Int) := l.mergeSort fun p q => decide (le2 p q)
theorem sort2_perm (l : List (Int × Int)) : (sort2 l).Perm l := List.mergeSort_perm _ _
theorem sort2_sorted (l : List (Int × Int)) : (sort2 l).Pairwise le2 := by
  have := List.pairwise_mergeSort (le := fun p q => decide (le2 p q)) (fun a b c h1 h2 => decide_eq_true (le2_trans (of_decide_eq_true h1) (of_decide_eq_true h2)))
    (fun a b => by rcases le2_total a b with h | h <;> simp [h]) l
  exact this.imp fun h => of_decide_eq_true h
theorem sort2_uniq {l m : List (Int × Int)} (h1 : m.Perm l) (h2 : m.Pairwise le2) : m = sort2 l :=
  List.Perm.eq_of_pairwise (le := le2) (fun _ _ _ _ => le2_anti) h2 (sort2_sorted l) (h1.trans (sort2_perm l).symm)
theorem sort2_self {l : List (Int × Int)} (h : l.Pairwise le2) : sort2 l = l := (sort2_uniq (List.Perm.refl _) h).symm
theorem sort2_mem {l : List (Int × Int)} {p : Int × Int} : p ∈ sort2 l ↔ p ∈ l := (sort2_perm l).mem_iff
theorem sort2_len (l : List (Int × Int)) : (sort2 l).length = l.length := (sort2_perm l).length_eq
theorem sort2_eq {l m : List (Int × Int)} (h : l.Perm m) : sort2 l = sort2 m := sort2_uniq ((sort2_perm l).trans h) (sort2_sorted l)
theorem sort2_nodup {l : List (Int × Int)} (h : l.Nodup) : (sort2 l).Nodup := (sort2_perm l).nodup_iff.mpr h
/-! sorted -/
def kOf (H : Hp) : V → Int × Int
  | .ref t => match H t with
    | some (.tup [.int i, .int j]) => (i, j)
    | _ => (0, 0)
  | _ => (0, 0)
theorem PrAt.k {H : Hp} {x : V} {p : Int × Int} (h : PrAt K H x p) : kOf H x = p := by
  obtain ⟨t, rfl, ht⟩ := h
  show (match H t with | some (.tup [.int i, .int j]) => (i, j) | _ => (0, 0)) = p
  rw [ht]
theorem PrL.k {H : Hp} {xs : List V} {l : List (Int × Int)} (h : PrL K H xs l) : xs.map (kOf H) = l := by
  induction h with
  | nil => rfl
  | cons a _ ih => rw [List.map_cons, a.k, ih]
theorem PrL.mem {H : Hp} {xs : List V} {l : List (Int × Int)} (h : PrL K H xs l) : ∀ x ∈ xs, PrAt K H x (kOf H x) := by
  induction h with
  | nil => intro x hx; cases hx
  | cons a _ ih =>
    intro x hx
    rcases List.mem_cons.mp hx with e | hx
    · subst e; rw [a.k]; exact a
    · exact ih x hx
theorem PrL.of_k {H : Hp} : ∀ {ys : List V}, (∀ x ∈ ys, PrAt K H x (kOf H x)) → PrL K H ys (ys.map (kOf H))
  | [], _ => .nil
  | y :: ys, h => .cons (h y (List.mem_cons_self ..)) (PrL.of_k fun x hx => h x (List.mem_cons_of_mem _ hx))
def rSort2 (K : PySem.W.Frag) : List V → Hp → VK → Prop := fun vs H Q => ∃ (a : Addr) (xs : List V) (l : List (Int × Int)), vs = [V.ref a] ∧ SqL K H a xs ∧ PrL K H xs l ∧
  ∀ ys p, PrL K H ys (sort2 l) → H p = none → Q (.ref p) (upd H p (.lst ys))
theorem cr_sort2 {X : Cx} : CallR X (.builtin "sorted") (rSort2 X.K) := by
  intro pins s σ H vs us Q I r h
  obtain ⟨a, xs, l, rfl, hs, hP, q⟩ := h
  refine cr_sortedPO pins s σ H _ us Q I r ⟨a, xs, kOf H, rfl, hs, fun x hx => hP.mem x hx, fun ys p h1 h2 hp => q ys p ?_ hp⟩
  have hm := PrL.of_k (K := X.K) (H := H) (ys := ys) fun x hx => hP.mem x (h2.perm.mem_iff.mp hx)
  have e : ys.map (kOf H) = sort2 l := by
    refine sort2_uniq ?_ ?_
    · rw [← hP.k]; exact h2.perm.map _
    · rw [List.pairwise_map]
      refine List.Pairwise.imp (fun {x y} h => ?_) h1
      have := SrtO.lexB_no.mp h
      unfold le2
      omega
  rw [e] at hm
  exact hm
/-! in, ==, != -/
def dat2 (p : Int × Int) : PyData := .tuple [.int p.1, .int p.2]
theorem dat2_eqv (p q : Int × Int) : PyData.eqv (dat2 p) (dat2 q) = decide (p = q) := by
  obtain ⟨a, b⟩ := p
  obtain ⟨c, d⟩ := q
  show PyData.eqvAll [.int a, .int b] [.int c, .int d] = _
  simp only [PyData.eqvAll, PyData.eqv, Bool.and_true]
  by_cases h1 : a = c <;> by_cases h2 : b = d <;> simp [h1, h2]
theorem dat2s_eqv : ∀ l m : List (Int × Int), PyData.eqvAll (l.map dat2) (m.map dat2) = decide (l = m)
  | [], [] => by simp [PyData.eqvAll]
  | [], _ :: _ => by simp [PyData.eqvAll]
  | _ :: _, [] => by simp [PyData.eqvAll]
  | p :: l, q :: m => by
    rw [List.map_cons, List.map_cons, PySem.W.eqv_all_cons, dat2_eqv, dat2s_eqv l m]
    by_cases e : p = q
    · subst e; simp
    · simp [e]
theorem PrAt.dp {H : Hp} {x : V} {p : Int × Int} (h : PrAt K H x p) : Dp K H x (dat2 p) := by
  obtain ⟨t, rfl, ht⟩ := h
  exact .tup (.inl (.inl ht)) (.cons (.int _) (.cons (.int _) .nil))
theorem PrL.dp {H : Hp} {xs : List V} {l : List (Int × Int)} (h : PrL K H xs l) : DpAll K H xs (l.map dat2) := by
  induction h with
  | nil => exact .nil
  | cons a _ ih => exact .cons a.dp ih
theorem dat2_sh (p : Int × Int) : SeqAt.shaped (dat2 p) = true := rfl
theorem dat2_sh2 (l : List (Int × Int)) (h : l.length ≤ 200) : SeqAt.shaped (.list (l.map dat2)) = true := by
  have key : ∀ l : List (Int × Int), PyData.canLayAll0 (l.map dat2) = true ∧ PyData.depthAll (l.map dat2) ≤ 1 := by
    intro l
    induction l with
    | nil => exact ⟨rfl, by decide⟩
    | cons p l ih =>
      refine ⟨?_, ?_⟩
      · show (PyData.canLay0 (dat2 p) && PyData.canLayAll0 (l.map dat2)) = true
        rw [ih.1]; rfl
      · show max (PyData.depth (dat2 p)) (PyData.depthAll (l.map dat2)) ≤ 1
        have : PyData.depth (dat2 p) = 1 := rfl
        have := ih.2
        omega
  unfold SeqAt.shaped
  have h1 : PyData.canLay0 (.list (l.map dat2)) = true := by
    exact (key l).1
  have h2 : PyData.depth (.list (l.map dat2)) ≤ 64 := by
    have := (key l).2
    simp only [PyData.depth]
    omega
  rw [h1, decide_eq_true h2]
  rfl
theorem any_eqv (l : List (Int × Int)) (p : Int × Int) : ((l.map dat2).any fun z => PyData.eqv z (dat2 p)) = decide (p ∈ l) := by
  induction l with
  | nil => simp
  | cons q l ih =>
    rw [List.map_cons, List.any_cons, ih, dat2_eqv]
    by_cases e : q = p
    · subst e; simp
    · simp [e, Ne.symm e]
def rIn2 (K : PySem.W.Frag) (neg : Bool) : R2 := fun x y H Q => ∃ (p : Int × Int) (a : Addr) (xs : List V) (l : List (Int × Int)), PrAt K H x p ∧ y = .ref a ∧ SqL K H a xs ∧ PrL K H xs l ∧ l.length ≤ 200 ∧ Q (.bl (if neg then !decide (p ∈ l) else decide (p ∈ l))) H
section
variable {X : Cx}
theorem op_in2 (hu : X.A.units + 65 < cLine) : OpR X (compareOp .In) (rIn2 X.K false) := by
  intro pins s σ H x y v u Q I rx ry h
  obtain ⟨p, a, xs, l, hp, rfl, hs, hP, hl, q⟩ := h
  refine op_inD hu pins s σ H _ _ v u Q I rx ry ⟨_, _, hp.dp, .lst hs hP.dp, dat2_sh p, dat2_sh2 l hl, ?_⟩
  rw [any_eqv]
  exact q
theorem op_notIn2 (hu : X.A.units + 65 < cLine) : OpR X (compareOp .NotIn) (rIn2 X.K true) := by
  intro pins s σ H x y v u Q I rx ry h
  obtain ⟨p, a, xs, l, hp, rfl, hs, hP, hl, q⟩ := h
  refine op_notInD hu pins s σ H _ _ v u Q I rx ry ⟨_, _, hp.dp, .lst hs hP.dp, dat2_sh p, dat2_sh2 l hl, ?_⟩
  rw [any_eqv]
  exact q
def rEqL2 (K : PySem.W.Frag) (neg : Bool) : R2 := fun x y H Q => ∃ (a b : Addr) (xs ys : List V) (l m : List (Int × Int)), x = .ref a ∧ y = .ref b ∧ SqL K H a xs ∧ PrL K H xs l ∧ SqL K H b ys ∧ PrL K H ys m ∧ l.length ≤ 200 ∧ m.length ≤ 200 ∧ Q (.bl (if neg then !decide (l = m) else decide (l = m))) H
theorem op_eqL2 (hu : X.A.units + 64 < cLine) : OpR X (compareOp .Eq) (rEqL2 X.K false) := by
  intro pins s σ H x y v u Q I rx ry h
  obtain ⟨a, b, xs, ys, l, m, rfl, rfl, hs, hP, hs', hP', hl, hm, q⟩ := h
  refine op_eqD hu pins s σ H _ _ v u Q I rx ry ⟨_, _, .lst hs hP.dp, .lst hs' hP'.dp, dat2_sh2 l hl, dat2_sh2 m hm, ?_⟩
  show Q (.bl (PyData.eqvAll _ _)) H
  rw [dat2s_eqv]
  exact q
theorem op_neL2 (hu : X.A.units + 64 < cLine) : OpR X (compareOp .NotEq) (rEqL2 X.K true) := by
  intro pins s σ H x y v u Q I rx ry h
  obtain ⟨a, b, xs, ys, l, m, rfl, rfl, hs, hP, hs', hP', hl, hm, q⟩ := h
  refine op_neD hu pins s σ H _ _ v u Q I rx ry ⟨_, _, .lst hs hP.dp, .lst hs' hP'.dp, dat2_sh2 l hl, dat2_sh2 m hm, ?_⟩
  show Q (.bl (!PyData.eqvAll _ _)) H
  rw [dat2s_eqv]
  exact q
def rEqP2 (K : PySem.W.Frag) (neg : Bool) : R2 := fun x y H Q => ∃ (p q : Int × Int), PrAt K H x p ∧ PrAt K H y q ∧ Q (.bl (if neg then !decide (p = q) else decide (p = q))) H
theorem op_eqP2 (hu : X.A.units + 64 < cLine) : OpR X (compareOp .Eq) (rEqP2 X.K false) := by
  intro pins s σ H x y v u Q I rx ry h
  obtain ⟨p, q, hp, hq, k⟩ := h
  refine op_eqD hu pins s σ H _ _ v u Q I rx ry ⟨_, _, hp.dp, hq.dp, dat2_sh p, dat2_sh q, ?_⟩
  rw [dat2_eqv]
  exact k
theorem op_neP2 (hu : X.A.units + 64 < cLine) : OpR X (compareOp .NotEq) (rEqP2 X.K true) := by
  intro pins s σ H x y v u Q I rx ry h
  obtain ⟨p, q, hp, hq, k⟩ := h
  refine op_neD hu pins s σ H _ _ v u Q I rx ry ⟨_, _, hp.dp, hq.dp, dat2_sh p, dat2_sh q, ?_⟩
  rw [dat2_eqv]
  exact k
end
theorem Room.units2 {k : Nat} {A : Around} (r : Room k A) : A.units + 65 < cLine := by have := r.un; omega

/-! ### dicts with tuples as keys: walks over items and keys, len, dict(d) -/
section
variable {P : Program} {w : World} {K : PySem.W.Frag} {X : Cx}
theorem frzT2 {pins : List (Addr × Obj)} {σ : L2.St} {H : Hp} {s : Shared} {d : Addr} {o : Obj} {kvs : List (List Key × V)} (I : Inv X pins σ H s) (h : H d = some (.frz o (.dT kvs))) :
    (d == sysModules) = false ∧ s.heap.get? d = some o ∧ o.ExactDict ∧ ∃ (es : Array DictEntry) (ep : Nat), o.data = .dict es ep ∧ es.size = kvs.length ∧
      ∀ (i : Nat) (k : List Key) (v : V), kvs[i]? = some (k, v) → ∃ (en : DictEntry) (q : Addr), es[i]? = some en ∧ en.key = .ref q ∧ H q = some (.tup (k.map kV)) ∧ RelV v en.val := by
  obtain ⟨hd, z, hs, xs, pr, o', es, ep, ho, hx, hdt, he, _⟩ := I.hok d _ h
  rw [hd] at ho
  cases ho
  refine ⟨hs, hd, hx, es, ep, hdt, ?_, fun i k v e => ?_⟩
  · have l1 : es.size = xs.length := PySem.size_of_entries he
    have l2 : kvs.length = xs.length := Paired.length pr
    omega
  · obtain ⟨b, hb, e1, e2, e3⟩ := paired_get pr e
    have q := PySem.entry_at he i
    rw [hb] at q
    exact ⟨_, b.2.1, q, rfl, e2, e3⟩
/-- the pairs, each a new tuple -/
def ItiT (d : Addr) (o : Obj) (kvs : List (List Key × V)) : It :=
  ⟨fun i H => H d = some (.frz o (.dT kvs)) ∧ i < kvs.length, fun i H x H' => ∃ (T : Addr) (k : List Key) (v : V) (q : Addr), kvs[i]? = some (k, v) ∧ x = .ref T ∧ H T = none ∧ H q = some (.tup (k.map kV)) ∧ H' = upd H T (.tup [.ref q, v]), fun i H => H d = some (.frz o (.dT kvs)) ∧ kvs.length ≤ i⟩
theorem turn_itemsT {d : Addr} {o : Obj} {es : Array DictEntry} {ep : Nat} {kvs : List (List Key × V)} {elts : List Expr} {kk : Nat} {tpos : Pos} (it : Addr) (hod : o.data = .dict es ep) :
    Turn P w K (.Tuple elts kk tpos) (ItiT d o kvs) [it] it (fun i h => ∃ ok ov, IsItemIter h it d i kvs.length ep ok ov) where
  mem := by simp
  obj := fun i h st b hb => by
    have e : b = it := by simpa using hb
    subst e
    obtain ⟨ok, ov, e⟩ := st
    exact ⟨_, e, fun v z => nomatch z⟩
  keep := fun i h h' st k => let ⟨ok, ov, e⟩ := st; ⟨ok, ov, k it (by simp) _ e⟩
  item := by
    intro X hP hw hK hc i pins s σ H E I hf st hg
    subst hP hw hK
    obtain ⟨hd, hi⟩ := hg
    obtain ⟨hs, hgd, hx, es', ep', hdt, hsz, ent⟩ := frzT2 I hd
    obtain ⟨rfl, rfl⟩ := dict_ep hod hdt
    obtain ⟨⟨k, v⟩, hkv⟩ : ∃ p, kvs[i]? = some p := ⟨kvs[i], List.getElem?_eq_getElem hi⟩
    obtain ⟨en, q, hen, hkey, hq, rv⟩ := ent i k v hkv
    obtain ⟨ok, ov, he⟩ := st
    rw [← hsz] at he
    have hi' : i < es'.size := by omega
    have een : es'[i] = en := by rw [Array.getElem?_eq_getElem hi'] at hen; exact Option.some.inj hen
    have hlt : it < s.heap.objs.size := Heap.lt_size he
    refine wpAny_pyNext_items_item_raw he ⟨o, hgd, hx, hdt⟩ hi' fun h' ho hT hz hk => ?_
    rw [een, hkey] at ho hT
    refine ⟨_, rfl, wpAny_letOwnedTupleGo_items (s := { s with heap := h' }) ho fun h'' he' sb => ?_⟩
    have hT2 : h''.get? s.heap.objs.size = some { cls := .type "tuple", data := .seq #[.ref q, en.val] } := (sb.2 _ (Nat.ne_of_gt hlt)).trans hT
    have new : ObjOk X.prog X.w (upd H s.heap.objs.size (.tup [.ref q, v])) h'' s.heap.objs.size (.tup [.ref q, v]) :=
      ⟨by show 2 ≤ sizeLine; decide, [.ref q, en.val], .cons rfl (.cons rv .nil), ⟨_, hT2, rfl, _, rfl⟩⟩
    have I1 : Inv X pins σ (upd H s.heap.objs.size (.tup [.ref q, v])) { s with heap := h'' } :=
      I.turnedNew (t' := s.toks) (ch := [it]) (fun b ob hb e => (sb.2 b (by simpa using hb)).trans (hk b ob (by simpa using hb) e)) hf (Nat.le_refl _) new
    refine ⟨.ref s.heap.objs.size, _, I1, rfl, ⟨_, k, v, q, hkv, rfl, I.hok.fresh (Nat.le_refl _), hq, rfl⟩, ⟨.ref q, en.val, ?_⟩, fun b hb => ?_⟩
    · rw [← hsz]; exact he'
    · have e : b = it := by simpa using hb
      rw [e, upd_ne (Nat.ne_of_lt hlt)]
      exact (hf it (by simp)).1
  done := by
    intro X hP hw hK hc i pins s σ H E I hf st hg
    subst hP hw hK
    obtain ⟨hd, hi⟩ := hg
    obtain ⟨f0, f1, f2, f3, f4, f5⟩ := hf it (by simp)
    obtain ⟨hs, hgd, hx, es', ep', hdt, hsz, ent⟩ := frzT2 I hd
    obtain ⟨rfl, rfl⟩ := dict_ep hod hdt
    obtain ⟨ok, ov, he⟩ := st
    rw [← hsz] at he
    exact wpAny_pyNext_items_end_raw (I.ok.hd hc) he ⟨o, hgd, hx, hdt⟩ (by omega) fun h' eb => ⟨rfl, I.turned (t' := s.toks) (fun b ob hb e => eb b ob hb e) f0 f1 f3 f4 f5⟩
  self := fun A i s Q E st h => let ⟨_, _, e⟩ := st; PySem.W.kcp_self e h
def iItemsT (td : TE) : TI := fun σ H R => td σ H fun x H1 => ∃ d o kvs, x = .ref d ∧ H1 d = some (.frz o (.dT kvs)) ∧ R (ItiT d o kvs) H1
def iKeysMT (td : TE) : TI := fun σ H R => td σ H fun x H1 => ∃ d o kvs, x = .ref d ∧ H1 d = some (.frz o (.dT kvs)) ∧ R (Itkt d o kvs) H1
variable {tg e : Expr} {td : TE} {apos cpos : Pos}
theorem pi_itemsT {elts : List Expr} {kk : Nat} {tpos : Pos} (he : PE X e td) (hbase : attributeBase e "items" X.env (eval e X.env) = eval e X.env := by rfl) (hline : (apos.endLine == cpos.line) = true := by rfl) :
    PI X (.Tuple elts kk tpos) (.Call (.Attribute e "items" apos) [] [] cpos) (iItemsT td) := by
  refine ⟨fun pins s σ H R I h => ?_⟩
  refine wpAny_Call_method (T := "dict") (id := "dict.items") hbase rfl hline PySem.F.plainAttrs_dict PySem.F.slot_dict_items PySem.F.type_dict_items (thn (he.run pins s σ H _ I h) fun u s1 ⟨x, H1, I1, rx, d, o, kvs, ex, hd, q⟩ => ?_)
  subst ex
  obtain rfl : u = Value.ref d := rx
  obtain ⟨hs, hgd, hx, es, ep, hdt, hsz, ent⟩ := I1.frzT hd
  have raw : s1.heap.DictRaw d es ep := ⟨o, hgd, hx, hdt⟩
  refine ⟨raw.typeIs, fun b q => ?_, ?_⟩
  · cases q
    exact ⟨o, hgd, hx.2.1⟩
  have I2 : Inv X pins σ H1 { s1 with heap := s1.heap.push { cls := .type "dict_items", data := .fields #[.ref d] } } := I1.kept (t' := s1.toks) fun b ob q => Heap.get?_push_of_some _ q
  have fin : wpAny (model X.prog X.w) X.A (pyIter (.ref s1.heap.objs.size)) (PIE X pins σ (.Tuple elts kk tpos) R) X.xe { s1 with heap := s1.heap.push { cls := .type "dict_items", data := .fields #[.ref d] } } := by
    refine wpAny_pyIter_items_raw (d := d) (es := es) (ep := ep) ⟨_, Heap.get?_push_size _ rfl, rfl, rfl⟩ (raw.push _) (pi_one (tk := s1.toks) I2 _ (turn_itemsT _ hdt) ⟨.none, .none, ?_⟩ q)
    rw [← hsz]
    exact Heap.get?_push_size _ rfl
  show wpAny _ _ (callWith cpos (.builtin "dict.items") [.ref d] [] []) _ X.xe s1
  exact method_meetsIn PySem.F.slot_dict_items PySem.F.entry_dict_items rfl (PySem.evalArgs_none ⟨rfl, raw.typeIs, PySem.F.args_dict_items_1 _, _, meets_dict_items_raw d hs, ⟨⟨es, ep, raw⟩, fin⟩⟩)
theorem pi_keysMT (he : PE X e td) (hbase : attributeBase e "keys" X.env (eval e X.env) = eval e X.env := by rfl) (hline : (apos.endLine == cpos.line) = true := by rfl) : PI X tg (.Call (.Attribute e "keys" apos) [] [] cpos) (iKeysMT td) := by
  refine ⟨fun pins s σ H R I h => ?_⟩
  refine wpAny_Call_method (T := "dict") (id := "dict.keys") hbase rfl hline PySem.F.plainAttrs_dict PySem.F.slot_dict_keys PySem.F.type_dict_keys (thn (he.run pins s σ H _ I h) fun u s1 ⟨x, H1, I1, rx, d, o, kvs, ex, hd, q⟩ => ?_)
  subst ex
  obtain rfl : u = Value.ref d := rx
  obtain ⟨hs, hgd, hx, es, ep, hdt, hsz, ent⟩ := I1.frzT hd
  have raw : s1.heap.DictRaw d es ep := ⟨o, hgd, hx, hdt⟩
  refine ⟨raw.typeIs, fun b q => ?_, ?_⟩
  · cases q
    exact ⟨o, hgd, hx.2.1⟩
  have I2 : Inv X pins σ H1 { s1 with heap := s1.heap.push { cls := .type "dict_keys", data := .fields #[.ref d] } } := I1.kept (t' := s1.toks) fun b ob q => Heap.get?_push_of_some _ q
  have fin : wpAny (model X.prog X.w) X.A (pyIter (.ref s1.heap.objs.size)) (PIE X pins σ tg R) X.xe { s1 with heap := s1.heap.push { cls := .type "dict_keys", data := .fields #[.ref d] } } := by
    refine wpAny_pyIter_keys_raw (d := d) (es := es) (ep := ep) ⟨_, Heap.get?_push_size _ rfl, rfl, rfl⟩ (raw.push _) (pi_one (tk := s1.toks) I2 _ (turn_keysT _ hdt) ⟨_, Heap.get?_push_size _ rfl, rfl, ?_⟩ q)
    rw [hsz] <;> rfl
  show wpAny _ _ (callWith cpos (.builtin "dict.keys") [.ref d] [] []) _ X.xe s1
  exact method_meetsIn PySem.F.slot_dict_keys PySem.F.entry_dict_keys rfl (PySem.evalArgs_none ⟨rfl, raw.typeIs, PySem.F.args_dict_keys_1 _, _, meets_dict_keys_raw d hs, ⟨⟨es, ep, raw⟩, fin⟩⟩)
/-- len(d) -/
theorem len_rawT {s : Shared} {A : Around} {E : Value → Shared → Prop} {d : Addr} {es : Array DictEntry} {ep : Nat} {Q : Value → Shared → Prop} (hd : (d == sysModules) = false) (hm : s.heap.DictRaw d es ep) (hfit : (es.size : Int) < 2 ^ 63)
    (h : Q (.int es.size (s.toks + 1)) { s with toks := s.toks + 1 + 1 }) : wpAny (model P w) A (call (.builtin "len") [.ref d]) Q E s := by
  refine Calls.call_function_entry kind_len plain_len entry_len (args_len1 _) ?_
  unfold Builtin.«len»
  refine wpAny_bind (m := oneArg "len" _) (wpAny_pure ?_)
  refine wpAny_bind (m := callSpecial? (.ref d) (Str.ofString "__len__")) (wpAny_callSpecial?_slot (name := Str.ofString "__len__") hm.typeIs PySem.F.slot_dict_len
    (call_meetsIn PySem.F.slot_dict_len hm.typeIs PySem.F.entry_dict_len (PySem.F.args_dict_len_1 _) (meets_dict_len_raw d hd) ⟨es, ep, hm, ?_⟩))
  show wpAny _ _ _ _ _ { s with toks := s.toks + 1 }
  refine wpAny_bind (wpAny_holding (wpAny_pure ?_))
  refine wpAny_bind (wpAny_letGo ?_)
  show wpAny _ _ (if ((es.size : Nat) : Int) < 0 then _ else _) _ _ _
  rw [if_neg (by omega)]
  show wpAny _ _ (if ((es.size : Nat) : Int) ≥ 2 ^ 63 then _ else _) _ _ _
  rw [if_neg (by omega)]
  exact wpAny_bind (wpAny_mkInt (wpAny_pure ⟨_, rfl, h⟩))
theorem call_lenT : CallR X (.builtin "len") (fun xs H Q => ∃ a kvs, xs = [V.ref a] ∧ H a = some (.dT kvs) ∧ Q (.int kvs.length) H) := by
  intro pins s σ H xs us Q I r h
  obtain ⟨a, kvs, rfl, ha, q⟩ := h
  obtain ⟨u, rfl, ru⟩ := vals1 r
  cases ru
  obtain ⟨z, hs, xs, pr, o, es, ep, ho, hx, hdt, he, hn⟩ := (show ObjOk X.prog X.w H s.heap a (.dT kvs) from I.hok a _ ha)
  have l1 : es.size = xs.length := PySem.size_of_entries he
  have l2 : kvs.length = xs.length := Paired.length pr
  refine len_rawT hs ⟨o, ho, hx, hdt⟩ (by rw [sizeLine_eq] at z; omega) ?_
  rw [l1, ← l2]
  exact ⟨.int kvs.length, H, I.tok _, ⟨_, rfl⟩, q⟩
/-- dict(d) where no two keys hash alike -/
theorem dict_ofT {s : Shared} {A : Around} {E : Value → Shared → Prop} {κ : Type} [DecidableEq κ] {knd : HeapKind P w κ} {o : Addr} {more : List (κ × Addr × Value)} {Q : Value → Shared → Prop} (hu : knd.room A.in1.in1) (hoS : (o == sysModules) = false) (ho : s.heap.DictOfH knd o more)
    (hty : ∀ x ∈ more, s.TypeIs (.ref x.2.1) "tuple") (hap : (more.map fun x => knd.hash x.1).Nodup) (hsz : more.length ≤ sizeLine) (hst : ∀ o', ∀ x ∈ more, knd.is (s.heap.push o') x.1 x.2.1)
    (h : ∀ h', h'.DictOfH knd s.heap.objs.size more → Heap.SameBut s.heap.objs.size (s.heap.push { cls := .type "dict", data := .dict #[] }) h' → Q (.ref s.heap.objs.size) { s with heap := h' }) :
    wpAny (model P w) A (call (.type "dict") [.ref o]) Q E s := by
  refine callType_codes (Q₁ := fun obj s₁ => obj = .ref s.heap.objs.size ∧ s₁ = { s with heap := s.heap.push { cls := .type "dict", data := .dict #[] } }) PySem.F.kt_called_dict (PySem.F.kt_typeCall_dict_1 _) PySem.F.entry_dict_init (kt_code_dict_new _ ⟨rfl, rfl⟩) ?_
  rintro obj s₁ ⟨rfl, rfl⟩
  have hnew : (s.heap.push { cls := .type "dict", data := .dict #[] }).DictOfH knd s.heap.objs.size [] := ⟨_, #[], 0, Heap.get?_push_size _ rfl, ⟨rfl, rfl, rfl⟩, rfl, rfl, (fun x hx => nomatch hx), List.Pairwise.nil⟩
  have ho' : (s.heap.push { cls := .type "dict", data := .dict #[] }).DictOfH knd o more := ho.at' (fun b q => Heap.get?_push_of_some _ q) (hst _)
  have hdo : s.heap.objs.size ≠ o := fun e => absurd ho.lt_size (by rw [e]; exact Nat.lt_irrefl _)
  refine ⟨hnew.typeIs, PySem.F.args_dict_init_2 _ _, ?_⟩
  unfold Builtin.«dict.__init__»
  refine wpAny_bind ?_
  unfold Builtin.Dict.selfAndRest
  refine wpAny_bind (wpAny_notOrdered_dict hnew.typeIs ?_)
  show wpAny _ _ (pure (s.heap.objs.size, [Value.ref o])) _ _ _
  refine wpAny_pure ?_
  show wpAny _ _ (Builtin.Dict.updateFrom "dict.__init__" s.heap.objs.size (.ref o) [] .none) _ _ _
  unfold Builtin.Dict.updateFrom
  refine wpAny_bind (wpAny_typeOf ho'.typeIs ?_)
  rw [if_neg (by decide)]
  refine wpAny_bind ?_
  unfold Builtin.Dict.merge
  refine wpAny_bind ?_
  unfold Builtin.Dict.readDirectly
  refine wpAny_bind (wpAny_isInstance ho'.typeIs isSubtype_dict_dict ?_)
  simp only [Bool.not_true, Bool.false_eq_true, if_false]
  refine wpAny_bind (wpAny_specialOf ho'.typeIs PySem.F.slot_dict_iter.lookup (wpAny_pure ?_))
  simp only [beq_self_eq_true, if_true]
  refine wpAny_bind (wpAny_pure ?_)
  refine wpAny_mergeDict_heap (hsz := by simpa using hsz) hu hdo hoS hnew ho' (.inr ⟨fun x hx => let ⟨ob, e, c⟩ := hty x hx; ⟨ob, Heap.get?_push_of_some _ e, c⟩, hap⟩) fun h' hd' _ hs' => ?_
  show wpAny _ _ (Builtin.Dict.addKeywords s.heap.objs.size [] >>= _) _ _ _
  rw [storedAllH_nil_of_nodup more ho.nodup] at hd'
  exact wpAny_bind (wpAny_pure (wpAny_pure ⟨rfl, h h' hd' hs'⟩))
/-- the key of a pair -/
def pk (p : Int × Int) : List Key := [.inl p.1, .inl p.2]
theorem pk_inj {p q : Int × Int} (h : pk p = pk q) : p = q := by
  unfold pk at h
  injection h with h1 h2
  injection h2 with h2 _
  exact Prod.ext (Sum.inl.inj h1) (Sum.inl.inj h2)
def hashP (p : Int × Int) : Int := reduceHash (Builtin.Tuple.tupleHashOf [hashInt p.1, hashInt p.2])
theorem hash_pk (P : Program) (w : World) (p : Int × Int) : (tupleKind (mixKind P w)).hash (pk p) = hashP p := by
  show tupleKeyHash (mixKind P w) (pk p) = _
  unfold tupleKeyHash hashP pk
  rfl
def smallPs : List (Int × Int) := (7, 9) :: ([0, 1, 2, 3, 9, 10, 11, 12] : List Int).flatMap fun a => ([1, 2, 3, 21, 22, 23] : List Int).map fun d => (a, a + d)
theorem hashes_apart : ∀ p ∈ smallPs, ∀ q ∈ smallPs, hashP p = hashP q → p = q := by decide +kernel
theorem nodup_at {α : Type} {l : List α} (h : l.Nodup) {i j : Nat} {x : α} (hi : l[i]? = some x) (hj : l[j]? = some x) : i = j := by
  have li := (List.getElem?_eq_some_iff.mp hi)
  have lj := (List.getElem?_eq_some_iff.mp hj)
  obtain ⟨li, ei⟩ := li
  obtain ⟨lj, ej⟩ := lj
  exact (List.getElem_inj h).mp (ei.trans ej.symm)
def smallP (p : Int × Int) : Prop := p ∈ smallPs
theorem hash_apart {p q : Int × Int} (hp : smallP p) (hq : smallP q) (h : hashP p = hashP q) : p = q := hashes_apart p hp q hq h
theorem hashes_nodup {ps : List (Int × Int)} (hs : ∀ p ∈ ps, smallP p) (hn : ps.Nodup) : (ps.map hashP).Nodup := by
  refine List.pairwise_map.mpr (List.Pairwise.imp_of_mem (fun ha hb ne e => ne (hash_apart (hs _ ha) (hs _ hb) e)) hn)
theorem map_hash {κ α : Type} (f : κ → Int) (g : α → κ) (h : α → Int) (e : ∀ p, f (g p) = h p) : ∀ {ms : List (κ × Addr × Value)} {ps : List α}, ms.map (·.1) = ps.map g → ms.map (fun x => f x.1) = ps.map h
  | [], [], _ => rfl
  | m :: ms, p :: ps, q => by
    rw [List.map_cons, List.map_cons] at q
    injection q with q1 q2
    rw [List.map_cons, List.map_cons, map_hash f g h e q2, q1, e p]
theorem KT_keys {H : Hp} : ∀ {kvs : List (List Key × V)} {ms : List (List Key × Addr × Value)}, KT H kvs ms → ms.map (·.1) = kvs.map (·.1) := by
  intro kvs ms rel
  induction rel with
  | nil => rfl
  | cons h _ ih => rw [List.map_cons, List.map_cons, ih, h.1]
theorem KT_tups {H : Hp} {h : Heap} (ok : HOk P w H h) : ∀ {kvs : List (List Key × V)} {ms : List (List Key × Addr × Value)}, KT H kvs ms → ∀ x ∈ ms, H x.2.1 = some (.tup (x.1.map kV)) := by
  intro kvs ms rel
  induction rel with
  | nil => intro x hx; exact nomatch hx
  | cons h _ ih =>
    intro x hx
    rcases List.mem_cons.mp hx with e | hx
    · subst e
      rw [← h.1]
      exact h.2.1
    · exact ih x hx
theorem tup_cls {H : Hp} {h : Heap} (ok : HOk P w H h) {a : Addr} {xs : List V} (e : H a = some (.tup xs)) : ∃ o, h.get? a = some o ∧ o.cls = .type "tuple" := by
  obtain ⟨_, its, _, o, h1, h2, _⟩ := (show ObjOk P w H h a (.tup xs) from ok a _ e)
  exact ⟨o, h1, h2⟩

theorem call_dictT (hu : X.A.units + 64 < cLine) : CallR X (.type "dict") (fun xs H Q => ∃ (a : Addr) (kvs : List (List Key × V)) (ps : List (Int × Int)), xs = [.ref a] ∧ H a = some (.dT kvs) ∧ kvs.map (·.1) = ps.map pk ∧ ps.Nodup ∧ (∀ p ∈ ps, smallP p) ∧ ∀ p, H p = none → Q (.ref p) (upd H p (.dT kvs))) := by
  intro pins s σ H xs us Q I r q
  obtain ⟨a, kvs, ps, ex, hd, hk, hn, hs, q⟩ := q
  subst ex
  obtain ⟨u, eu, rx⟩ := vals1 r
  subst eu
  cases rx
  obtain ⟨z, lo, ms, rel, dd⟩ := dt_of I.hok hd
  have lm : kvs.length = ms.length := Paired.length rel
  have hm : (s.heap.objs.size == sysModules) = false := beq_eq_false_iff_ne.mpr (Nat.ne_of_gt I.big)
  have keys : ms.map (·.1) = ps.map pk := (KT_keys rel).trans hk
  have tups := KT_tups I.hok rel
  have hap : (ms.map fun x => (tupleKind (mixKind X.prog X.w)).hash x.1).Nodup := by
    rw [map_hash _ pk hashP (hash_pk X.prog X.w) keys]
    exact hashes_nodup hs hn
  refine dict_ofT (knd := tupleKind (mixKind X.prog X.w)) ?_ lo dd (fun x hx => tup_cls I.hok (tups x hx)) hap (by omega) (fun o' x hx => ?_) fun h' hd' hs' => ?_
  · show X.A.in1.in1.units < cLine
    rw [units_in1, units_in1]
    omega
  · obtain ⟨o, items, n, h1, h2, h3, h4⟩ := key_of I.hok (tups x hx)
    exact ⟨o, items, n, Heap.get?_push_of_some _ h1, h2, h3, h4⟩
  · obtain ⟨o, es, ep, h1, h2, h3, h4, _, h5⟩ := hd'
    refine ⟨.ref s.heap.objs.size, upd H s.heap.objs.size (.dT kvs), I.laid (t' := s.toks) (fun b u e => (hs'.2 b (Nat.ne_of_lt (Heap.lt_size e))).trans (Heap.get?_push_of_some _ e)) (Nat.le_refl _) ?_, rfl, q _ (I.hok.fresh (Nat.le_refl _))⟩
    refine ⟨z, hm, ms, rel.keeps fun c ys hc => ?_, o, es, ep, h1, h2, h3, h4, h5⟩
    rw [upd_ne (ne_of_none hc (I.hok.fresh (Nat.le_refl _)))]
    exact hc
theorem for_itemsT {d : Addr} {o : Obj} {kvs : List (List Key × V)} {g : TG} {tb : TS} {D : Ends} {σ : L2.St} {H : Hp} (Pv : Nat → L2.St → Hp → Prop) (h0 : Pv 0 σ H) (keep : ∀ i σ H, i ≤ kvs.length → Pv i σ H → H d = some (.frz o (.dT kvs)))
    (turn : ∀ i k v q T σ' H', kvs[i]? = some (k, v) → Pv i σ' H' → H' T = none → H' q = some (.tup (k.map kV)) → g (.ref T) σ' (upd H' T (.tup [.ref q, v])) fun σ2 H2 => tb { D with nx := Pv (i + 1), ct := Pv (i + 1), bk := D.nx } σ2 H2)
    (last : ∀ σ H, Pv kvs.length σ H → D.nx σ H) :
    ∃ W : Nat → Nat → L2.St → Hp → Prop, (∃ m, W 0 m σ H) ∧ ∀ i m σ H, W i m σ H →
      ((ItiT d o kvs).stop i H ∧ D.nx σ H) ∨ ((ItiT d o kvs).go i H ∧ ∃ N : L2.St → Hp → Prop, (∀ σ' H', N σ' H' → ∃ m', m' < m ∧ W (i + 1) m' σ' H') ∧ ∀ x H', (ItiT d o kvs).yld i H x H' → g x σ H' fun σ2 H2 => tb { D with nx := N, ct := N, bk := D.nx } σ2 H2) := by
  refine ⟨fun i m σ F => i + m = kvs.length ∧ Pv i σ F, ⟨kvs.length, Nat.zero_add _, h0⟩, fun i m σ F ⟨im, pv⟩ => ?_⟩
  have lst := keep i σ F (by omega) pv
  cases m with
  | zero =>
    obtain rfl : i = kvs.length := by omega
    exact .inl ⟨⟨lst, Nat.le_refl _⟩, last σ F pv⟩
  | succ m =>
    have lt : i < kvs.length := by omega
    refine .inr ⟨⟨lst, lt⟩, Pv (i + 1), fun σ' F' pv' => ⟨m, Nat.lt_succ_self m, by omega, pv'⟩, fun x F' yl => ?_⟩
    obtain ⟨T, k, v, q, hk, rfl, hT, hq, rfl⟩ := yl
    exact turn i k v q T σ F hk pv hT hq
theorem for_keysT {d : Addr} {o : Obj} {kvs : List (List Key × V)} {g : TG} {tb : TS} {D : Ends} {σ : L2.St} {H : Hp} (Pv : Nat → L2.St → Hp → Prop) (h0 : Pv 0 σ H) (keep : ∀ i σ H, i ≤ kvs.length → Pv i σ H → H d = some (.frz o (.dT kvs)))
    (turn : ∀ i k v q σ' H', kvs[i]? = some (k, v) → Pv i σ' H' → H' q = some (.tup (k.map kV)) → g (.ref q) σ' H' fun σ2 H2 => tb { D with nx := Pv (i + 1), ct := Pv (i + 1), bk := D.nx } σ2 H2)
    (last : ∀ σ H, Pv kvs.length σ H → D.nx σ H) :
    ∃ W : Nat → Nat → L2.St → Hp → Prop, (∃ m, W 0 m σ H) ∧ ∀ i m σ H, W i m σ H →
      ((Itkt d o kvs).stop i H ∧ D.nx σ H) ∨ ((Itkt d o kvs).go i H ∧ ∃ N : L2.St → Hp → Prop, (∀ σ' H', N σ' H' → ∃ m', m' < m ∧ W (i + 1) m' σ' H') ∧ ∀ x H', (Itkt d o kvs).yld i H x H' → g x σ H' fun σ2 H2 => tb { D with nx := N, ct := N, bk := D.nx } σ2 H2) := by
  refine ⟨fun i m σ F => i + m = kvs.length ∧ Pv i σ F, ⟨kvs.length, Nat.zero_add _, h0⟩, fun i m σ F ⟨im, pv⟩ => ?_⟩
  have lst := keep i σ F (by omega) pv
  cases m with
  | zero =>
    obtain rfl : i = kvs.length := by omega
    exact .inl ⟨⟨lst, Nat.le_refl _⟩, last σ F pv⟩
  | succ m =>
    have lt : i < kvs.length := by omega
    refine .inr ⟨⟨lst, lt⟩, Pv (i + 1), fun σ' F' pv' => ⟨m, Nat.lt_succ_self m, by omega, pv'⟩, fun x F' yl => ?_⟩
    obtain ⟨rfl, k, v, q, hk, rfl, hq⟩ := yl
    exact turn i k v q σ F' hk pv hq
/-- H with the dict at d locked, and unlocked again -/
theorem Same.unlock {H H' : Hp} {d : Addr} {x o : HO} (h : H d = some x) (s : Same (upd H d o) H') : Same H (upd H' d x) := fun b y e => by
  by_cases eb : b = d
  · subst eb
    rw [upd_same]
    exact h.symm.trans e
  · rw [upd_ne eb]
    exact s _ _ (by rw [upd_ne eb]; exact e)
end

/-! ### dicts from pairs to fractions -/
structure FD (K : PySem.W.Frag) (H : Hp) (a : Addr) (dom : List (Int × Int)) (f : Int × Int → Int × Int) : Prop where
  ex : ∃ kvs : List (List Key × V), H a = some (.dT kvs) ∧ All2 (fun kv p => kv.1 = pk p ∧ PrAt K H kv.2 (f p)) kvs dom
  nd : dom.Nodup
  sm : ∀ p ∈ dom, smallP p
/-- an entry row of a dict, told by its keys -/
abbrev Ents (K : PySem.W.Frag) (H : Hp) (kvs : List (List Key × V)) (dom : List (Int × Int)) (f : Int × Int → Int × Int) : Prop := All2 (fun kv p => kv.1 = pk p ∧ PrAt K H kv.2 (f p)) kvs dom
theorem Ents.tups {H H' : Hp} {kvs : List (List Key × V)} {dom : List (Int × Int)} {f : Int × Int → Int × Int} (s : TupS H H') (h : Ents K H kvs dom f) : Ents K H' kvs dom f := All2.mono h fun _ _ ⟨e, t, et, ht⟩ => ⟨e, t, et, s _ _ ht⟩
theorem FD.mono {H H' : Hp} {a : Addr} {dom : List (Int × Int)} {f : Int × Int → Int × Int} (s : Same H H') (h : FD K H a dom f) : FD K H' a dom f := by
  obtain ⟨⟨kvs, e, r⟩, nd, sm⟩ := h
  exact ⟨⟨kvs, s _ _ e, Ents.tups (TupS.of s) r⟩, nd, sm⟩
theorem Ents.get {H : Hp} {kvs : List (List Key × V)} {dom : List (Int × Int)} {f : Int × Int → Int × Int} (h : Ents K H kvs dom f) {p : Int × Int} (hp : p ∈ dom) : ∃ v, valV kvs (pk p) = some v ∧ PrAt K H v (f p) := by
  induction h with
  | nil => cases hp
  | @cons kv q xs ys h _ ih =>
    by_cases e : q = p
    · subst e
      exact ⟨kv.2, valV_pos h.1, h.2⟩
    · obtain ⟨v, e1, e2⟩ := ih ((List.mem_cons.mp hp).resolve_left (Ne.symm e))
      refine ⟨v, ?_, e2⟩
      rw [valV_neg (fun z => e (pk_inj (h.1.symm.trans z)))]
      exact e1
theorem Ents.not {H : Hp} {kvs : List (List Key × V)} {dom : List (Int × Int)} {f : Int × Int → Int × Int} (h : Ents K H kvs dom f) {p : Int × Int} (hp : p ∉ dom) : valV kvs (pk p) = none := by
  induction h with
  | nil => rfl
  | @cons kv q xs ys h _ ih =>
    rw [List.mem_cons, not_or] at hp
    rw [valV_neg (fun z => hp.1 (pk_inj (h.1.symm.trans z)).symm)]
    exact ih hp.2
theorem Ents.keys {H : Hp} {kvs : List (List Key × V)} {dom : List (Int × Int)} {f : Int × Int → Int × Int} (h : Ents K H kvs dom f) : kvs.map (·.1) = dom.map pk := by
  induction h with
  | nil => rfl
  | cons h _ ih => rw [List.map_cons, List.map_cons, ih, h.1]
theorem Ents.val {H : Hp} {kvs : List (List Key × V)} {dom : List (Int × Int)} {f g : Int × Int → Int × Int} (h : Ents K H kvs dom f) (e : ∀ p ∈ dom, f p = g p) : Ents K H kvs dom g := by
  induction h with
  | nil => exact .nil
  | @cons kv q xs ys h _ ih => exact .cons ⟨h.1, (e q (List.mem_cons_self ..)) ▸ h.2⟩ (ih fun p hp => e p (List.mem_cons_of_mem _ hp))
theorem FD.val {H : Hp} {a : Addr} {dom : List (Int × Int)} {f g : Int × Int → Int × Int} (h : FD K H a dom f) (e : ∀ p ∈ dom, f p = g p) : FD K H a dom g := by
  obtain ⟨⟨kvs, e1, r⟩, nd, sm⟩ := h
  exact ⟨⟨kvs, e1, Ents.val r e⟩, nd, sm⟩
theorem FD.nil {H : Hp} {a : Addr} {f : Int × Int → Int × Int} (h : H a = some (.dT [])) : FD K H a [] f := ⟨⟨[], h, .nil⟩, List.nodup_nil, fun _ h => nomatch h⟩
def setF (f : Int × Int → Int × Int) (p x : Int × Int) : Int × Int → Int × Int := fun q => if q = p then x else f q
/-- a new key -/
theorem FD.put {H : Hp} {a : Addr} {dom : List (Int × Int)} {f : Int × Int → Int × Int} {kvs : List (List Key × V)} {v : V} {p x : Int × Int} (nd : dom.Nodup) (sm : ∀ p ∈ dom, smallP p) (e : H a = some (.dT kvs)) (h : Ents K H kvs dom f) (hp : p ∉ dom) (hs : smallP p) (hv : PrAt K H v x) :
    FD K (upd H a (.dT (putK kvs (pk p) v))) a (dom ++ [p]) (setF f p x) := by
  rw [putK_new v (h.not hp)]
  have ts : TupS H (upd H a (.dT (kvs ++ [(pk p, v)]))) := fun t xs q => by
    rw [upd_ne (ne_of q e (fun z => nomatch z))]
    exact q
  refine ⟨⟨_, upd_same, ?_⟩, ?_, ?_⟩
  · refine All2.app (Ents.tups ts (Ents.val (g := setF f p x) h fun q hq => ?_)) (.one ⟨rfl, ?_⟩)
    · unfold setF
      rw [if_neg (fun (z : q = p) => hp (z ▸ hq))]
    · show PrAt K _ v (setF f p x p)
      unfold setF
      rw [if_pos rfl]
      obtain ⟨t, e1, e2⟩ := hv
      exact ⟨t, e1, ts _ _ e2⟩
  · rw [List.nodup_append]
    refine ⟨nd, by simp, fun u hu v hv => ?_⟩
    rw [List.mem_singleton.mp hv]
    exact fun (z : u = p) => hp (z ▸ hu)
  · intro q hq
    rcases List.mem_append.mp hq with z | z
    · exact sm q z
    · rw [List.mem_singleton.mp z]
      exact hs
/-- what stands but for the dict at a, which is new since H0 -/
theorem Same.newD {H0 H : Hp} {a : Addr} {o : HO} (s : Same H0 H) (h : H0 a = none) : Same H0 (upd H a o) := fun b x e => by
  rw [upd_ne (ne_of_none e h)]
  exact s _ _ e
theorem key_pk {H : Hp} {t : Addr} {p : Int × Int} (h : H t = some (.tup [.int p.1, .int p.2])) : H t = some (.tup ((pk p).map kV)) := h
theorem FD.few {H : Hp} {a : Addr} {dom : List (Int × Int)} {f : Int × Int → Int × Int} (h : FD K H a dom f) : ∃ kvs, H a = some (.dT kvs) ∧ kvs.length = dom.length := by
  obtain ⟨⟨kvs, e, r⟩, nd, sm⟩ := h
  exact ⟨kvs, e, r.length⟩
/-- a row of keys that hold the same has the same length -/
theorem dom_len {l m : List (Int × Int)} (h : l.Nodup) (k : m.Nodup) (e : ∀ p, p ∈ l ↔ p ∈ m) : l.length = m.length :=
  ((List.perm_ext_iff_of_nodup h k).mpr e).length_eq

/-! ### a key that stands gets another value -/
theorem Ents.set {H H' : Hp} {kvs : List (List Key × V)} {dom : List (Int × Int)} {f : Int × Int → Int × Int} (h : Ents K H kvs dom f) (ts : TupS H H') (p x : Int × Int) (v : V) (hv : PrAt K H' v x) :
    Ents K H' (kvs.map fun kv => if kv.1 = pk p then (kv.1, v) else kv) dom (setF f p x) := by
  induction h with
  | nil => exact .nil
  | @cons kv q xs ys h _ ih =>
    refine .cons ?_ ih
    show (if kv.1 = pk p then (kv.1, v) else kv).1 = pk q ∧ PrAt K H' (if kv.1 = pk p then (kv.1, v) else kv).2 (setF f p x q)
    by_cases e : q = p
    · subst e
      rw [if_pos h.1]
      refine ⟨h.1, ?_⟩
      show PrAt K H' v (setF f q x q)
      unfold setF
      rw [if_pos rfl]
      exact hv
    · rw [if_neg (fun z => e (pk_inj (h.1.symm.trans z)))]
      refine ⟨h.1, ?_⟩
      show PrAt K H' kv.2 (setF f p x q)
      unfold setF
      rw [if_neg e]
      obtain ⟨t, e1, e2⟩ := h.2
      exact ⟨t, e1, ts _ _ e2⟩
theorem FD.set {H : Hp} {a : Addr} {dom : List (Int × Int)} {f : Int × Int → Int × Int} {kvs : List (List Key × V)} {v : V} {p x : Int × Int} (nd : dom.Nodup) (sm : ∀ p ∈ dom, smallP p) (e : H a = some (.dT kvs)) (h : Ents K H kvs dom f) (hp : p ∈ dom) (hv : PrAt K H v x) :
    FD K (upd H a (.dT (putK kvs (pk p) v))) a dom (setF f p x) := by
  obtain ⟨v0, g0, _⟩ := h.get hp
  have ep : putK kvs (pk p) v = kvs.map fun kv => if kv.1 = pk p then (kv.1, v) else kv := by
    unfold putK
    rw [valV_any, g0]
    rfl
  rw [ep]
  have ts : TupS H (upd H a (.dT (kvs.map fun kv => if kv.1 = pk p then (kv.1, v) else kv))) := fun t xs q => by
    rw [upd_ne (ne_of q e (fun z => nomatch z))]
    exact q
  obtain ⟨t, e1, e2⟩ := hv
  exact ⟨⟨_, upd_same, Ents.set h ts p x v ⟨t, e1, ts _ _ e2⟩⟩, nd, sm⟩

/-! ### fractions in lowest terms: the mathematics -/
def lowI (t b : Int) : Int × Int := if b < 0 then ((-t) / ((Nat.gcd t.natAbs b.natAbs : Nat) : Int), (-b) / ((Nat.gcd t.natAbs b.natAbs : Nat) : Int)) else (t / ((Nat.gcd t.natAbs b.natAbs : Nat) : Int), b / ((Nat.gcd t.natAbs b.natAbs : Nat) : Int))
/-- lowest terms: x over y -/
structure Low (x y : Int) : Prop where
  pos : 0 < y
  one : Nat.gcd x.natAbs y.natAbs = 1
theorem lowI_pos {t b : Int} (h : 0 < b) : Low (lowI t b).1 (lowI t b).2 ∧ (lowI t b).1 * b = (lowI t b).2 * t ∧ (lowI t b).2 ≤ b ∧ (lowI t b).1.natAbs ≤ t.natAbs := by
  have hg : 0 < Nat.gcd t.natAbs b.natAbs := Nat.gcd_pos_of_pos_right _ (by omega)
  obtain ⟨x, hx⟩ := Nat.gcd_dvd_left t.natAbs b.natAbs
  obtain ⟨y, hy⟩ := Nat.gcd_dvd_right t.natAbs b.natAbs
  have e : lowI t b = (t / ((Nat.gcd t.natAbs b.natAbs : Nat) : Int), b / ((Nat.gcd t.natAbs b.natAbs : Nat) : Int)) := by
    unfold lowI
    rw [if_neg (by omega)]
  rw [e]
  generalize hgd : Nat.gcd t.natAbs b.natAbs = g at *
  have hg' : (g : Int) ≠ 0 := by omega
  have hb : b = (g : Int) * (y : Int) := by
    have : (b.natAbs : Int) = ((g * y : Nat) : Int) := by rw [← hy]
    rw [Int.natCast_mul] at this
    omega
  have eb : b / (g : Int) = (y : Int) := by rw [hb]; exact Int.mul_ediv_cancel_left _ hg'
  have hy0 : 0 < y := by
    rcases Nat.eq_zero_or_pos y with q | q
    · rw [q, Int.ofNat_zero, Int.mul_zero] at hb; omega
    · exact q
  have ht : t = (g : Int) * (if t < 0 then -(x : Int) else (x : Int)) := by
    have : (t.natAbs : Int) = ((g * x : Nat) : Int) := by rw [← hx]
    rw [Int.natCast_mul] at this
    split
    · rw [Int.mul_neg]; omega
    · omega
  have et : t / (g : Int) = (if t < 0 then -(x : Int) else (x : Int)) := by
    conv => lhs; rw [ht]
    exact Int.mul_ediv_cancel_left _ hg'
  have hcop : Nat.gcd x y = 1 := by
    have h1 : Nat.gcd (g * x) (g * y) = g * Nat.gcd x y := Nat.gcd_mul_left g x y
    rw [← hx, ← hy, hgd] at h1
    have h2 : g * 1 = g * Nat.gcd x y := by rw [Nat.mul_one]; exact h1
    exact (Nat.eq_of_mul_eq_mul_left hg h2).symm
  rw [eb, et]
  have hna : (if t < 0 then -(x : Int) else (x : Int)).natAbs = x := by split <;> omega
  refine ⟨⟨by omega, ?_⟩, ?_, ?_, ?_⟩
  · rw [hna, Int.natAbs_natCast]; exact hcop
  · have := ht
    generalize (if t < 0 then -(x : Int) else (x : Int)) = x' at *
    show x' * b = (y : Int) * t
    rw [hb, ht, Int.mul_left_comm x', Int.mul_left_comm (y : Int), Int.mul_comm x']
  · rw [hb]
    have : (1 : Int) * (y : Int) ≤ (g : Int) * (y : Int) := Int.mul_le_mul_of_nonneg_right (by omega) (by omega)
    omega
  · show (if t < 0 then -(x : Int) else (x : Int)).natAbs ≤ t.natAbs
    rw [hna, hx]
    exact Nat.le_mul_of_pos_left x hg
theorem lowI_neg {t b : Int} (h : b < 0) : lowI t b = lowI (-t) (-b) := by
  unfold lowI
  rw [if_pos h, if_neg (show ¬ (-b < 0) by omega), Int.natAbs_neg, Int.natAbs_neg]
theorem lowI_ok {t b : Int} (h : b ≠ 0) : Low (lowI t b).1 (lowI t b).2 ∧ (lowI t b).1 * b = (lowI t b).2 * t ∧ (lowI t b).2.natAbs ≤ b.natAbs ∧ (lowI t b).1.natAbs ≤ t.natAbs := by
  by_cases hb : 0 < b
  · obtain ⟨h1, h2, h3, h4⟩ := lowI_pos (t := t) hb
    exact ⟨h1, h2, by have := h1.pos; omega, h4⟩
  · have hn : b < 0 := by omega
    obtain ⟨h1, h2, h3, h4⟩ := lowI_pos (t := -t) (b := -b) (by omega)
    rw [← lowI_neg hn] at h1 h2 h3 h4
    refine ⟨h1, ?_, by have := h1.pos; omega, by rw [Int.natAbs_neg] at h4; exact h4⟩
    rw [Int.mul_neg, Int.mul_neg] at h2
    omega
theorem lowI_self {x y : Int} (h : Low x y) : lowI x y = (x, y) := by
  unfold lowI
  have := h.pos
  rw [if_neg (by omega), h.one]
  simp
/-- two in lowest terms that are worth the same are the same -/
theorem low_same {x y u v : Int} (h : Low x y) (k : Low u v) (e : x * v = u * y) : x = u ∧ y = v := by
  have hy := h.pos
  have hv := k.pos
  have e' : x.natAbs * v.natAbs = u.natAbs * y.natAbs := by rw [← Int.natAbs_mul, ← Int.natAbs_mul, e]
  have d1 : y.natAbs ∣ v.natAbs := by
    have : y.natAbs ∣ x.natAbs * v.natAbs := by rw [e']; exact Nat.dvd_mul_left _ _
    exact (Nat.Coprime.symm (show Nat.Coprime x.natAbs y.natAbs from h.one)).dvd_of_dvd_mul_left this
  have d2 : v.natAbs ∣ y.natAbs := by
    have : v.natAbs ∣ u.natAbs * y.natAbs := by rw [← e']; exact Nat.dvd_mul_left _ _
    exact (Nat.Coprime.symm (show Nat.Coprime u.natAbs v.natAbs from k.one)).dvd_of_dvd_mul_left this
  have ey : y.natAbs = v.natAbs := Nat.dvd_antisymm d1 d2
  have eyv : y = v := by omega
  subst eyv
  exact ⟨Int.eq_of_mul_eq_mul_right (by omega) e, rfl⟩
theorem fdiv_lowN {t g : Int} (hg : 0 < g) : t.fdiv (-g) = (-t) / g := by
  have e : t.fdiv (-g) = (-(-t)).fdiv (-g) := by rw [Int.neg_neg]
  rw [e, Int.neg_fdiv_neg, Int.fdiv_eq_ediv_of_nonneg _ (by omega)]
theorem fdiv_lowP {t g : Int} (hg : 0 < g) : t.fdiv g = t / g := Int.fdiv_eq_ediv_of_nonneg _ (by omega)
theorem gcd_log {t b : Int} (h : b ≠ 0) (hb : b.natAbs.log2 < 9000) : ((Nat.gcd t.natAbs b.natAbs : Nat) : Int).natAbs.log2 < 9000 := by
  rw [Int.natAbs_natCast]
  have h1 : Nat.gcd t.natAbs b.natAbs ≤ b.natAbs := Nat.gcd_le_right _ (by omega)
  have h2 : b.natAbs < 2 ^ (b.natAbs.log2 + 1) := Nat.lt_log2_self
  have h3 : (Nat.gcd t.natAbs b.natAbs).log2 < b.natAbs.log2 + 1 := PySem.Flt.log2_lt_of (by omega) (Nat.lt_of_le_of_lt h1 h2)
  omega

/-! ### whole, low, part -/
def sp_whole : Sp := fun vs H Q _ => ∃ n : Int, vs = [.int n] ∧ Q (.bl true) H
theorem ok__law_whole (T : Env K mg) : FnOk P w K mg base CX0 1 T.a__law_whole T.fd__law_whole ["_law_found"] sp_whole := by
  refine T.F__law_whole.ok sc__law_whole (fun vs H Q E h => ?_) (fun cdv A outer s H vs Q E hr h => ?_)
  · obtain ⟨n, rfl, _⟩ := h
    rfl
  · obtain ⟨n, rfl, q⟩ := h
    refine ⟨_, (pss_one (ps_ret (pe_and (pe_callB call_isi (by rfl) T.m_isinstance (by decide +kernel) (pa_cons (pv 0) (pa_cons (pe_bltn (v := .ty "int") (u := .type "int") (by rfl) T.m_int (by decide +kernel) rfl) pa_nil))) (pe_one (pe_not (pe_callB call_isi (by rfl) T.m_isinstance (by decide +kernel) (pa_cons (pv 0) (pa_cons (pe_bltn (v := .ty "bool") (u := .type "bool") (by rfl) T.m_bool (by decide +kernel) rfl) pa_nil)))))))), ?_⟩
    refine ⟨_, rfl, _, _, _, _, _, rfl, .ty _, .base (.int _), kit_ty (by decide +kernel), true, rfl, iteT ?_⟩
    exact ⟨_, rfl, _, _, _, _, _, rfl, .ty _, .base (.int _), kit_ty (by decide +kernel), false, rfl, q⟩
def sp_low : Sp := fun vs H Q _ => ∃ t b : Int, vs = [.int t, .int b] ∧ b ≠ 0 ∧ b.natAbs.log2 < 9000 ∧
  ∀ p, H p = none → Q (.ref p) (upd H p (.tup [.int (lowI t b).1, .int (lowI t b).2]))
theorem gcd_turn {a b : Nat} (h : 0 < b) : Nat.gcd b (a % b) = Nat.gcd a b := by
  rw [Nat.gcd_comm a b, Nat.gcd_rec b a, Nat.gcd_comm]
theorem ok__law_low (T : Env K mg) : FnOk P w K mg base CX0 1 T.a__law_low T.fd__law_low ["_law_top", "_law_bottom"] sp_low := by
  refine T.F__law_low.ok sc__law_low (fun vs H Q E h => ?_) (fun cdv A outer s H vs Q E hr h => ?_)
  · obtain ⟨t, b, rfl, _⟩ := h
    rfl
  · obtain ⟨t, b, rfl, hb, hlog, q⟩ := h
    refine ⟨_, (pss_cons (ps_set (i := 2) sc__law_low.nd rfl (.inl rfl) (pe_callB call_abs (by rfl) T.m_abs (by decide +kernel) (pa_cons (pv 0) pa_nil)))
 (pss_cons (ps_set (i := 3) sc__law_low.nd rfl (.inl rfl) (pe_callB call_abs (by rfl) T.m_abs (by decide +kernel) (pa_cons (pv 1) pa_nil)))
 (pss_cons (ps_while PassesOwn.never (pt_cmpR op_gt (pv 3) pe_int (nomark _))
 (pss_one (ps_par (i := 2) (j := 3) (by rfl) sc__law_low.nd rfl rfl (by decide) rfl rfl (pa_cons (pv 3) (pa_cons (pe_op op_mod (pv 2) (pv 3)) pa_nil)) (by rfl))))
 (C8.pss_cut (ps_if (pt_cmpR op_lt (pv 1) pe_int (nomark _))
 (pss_cons (ps_set (i := 0) sc__law_low.nd rfl (.inl rfl) (pe_un un_neg (pv 0)))
 (pss_one (ps_set (i := 1) sc__law_low.nd rfl (.inl rfl) (pe_un un_neg (pv 1)))))
 pss_nil)
 (pss_one (ps_ret (pe_tup (pa_cons (pe_op op_fdivX (pv 0) (pv 2)) (pa_cons (pe_op op_fdivX (pv 1) (pv 2)) pa_nil))))))))), ?_⟩
    refine ⟨_, rfl, _, rfl, _, rfl, _, rfl, ?_⟩
    have ab : ∀ z : Int, (if z < 0 then -z else z) = (z.natAbs : Int) := fun z => by split <;> omega
    rw [ab, ab]
    refine while_by (fun σ H' => H = H' ∧ ∃ x y : Nat, σ = [some (.int t), some (.int b), some (.int (x : Int)), some (.int (y : Int))] ∧ Nat.gcd x y = Nat.gcd t.natAbs b.natAbs)
      (fun σ _ => match σ with | [_, _, _, some (.int y)] => y.toNat | _ => 0) ⟨rfl, _, _, rfl, rfl⟩ ?_ ?_
    · rintro _ _ ⟨rfl, x, y, rfl, hg⟩
      refine ⟨_, rfl, _, _, rfl, rfl, _, rfl, ite2 (fun hd => ?_) (fun hd => ?_)⟩
      · have hy : 0 < y := by have := of_decide_eq_true hd; omega
        refine ⟨_, rfl, _, rfl, _, rfl, _, _, rfl, rfl, by omega, _, _, rfl, ⟨rfl, y, x % y, ?_, ?_⟩, ?_⟩
        · rw [Int.natCast_emod]; rfl
        · rw [gcd_turn hy]; exact hg
        · show ((x : Int) % (y : Int)).toNat < ((y : Int)).toNat
          have : x % y < y := Nat.mod_lt _ hy
          rw [← Int.natCast_emod]
          omega
      · have hy : y = 0 := by have h1 : ¬ ((0 : Int) < (y : Int)) := nd hd; omega
        subst hy
        rw [Nat.gcd_zero_right] at hg
        have hgp : 0 < Nat.gcd t.natAbs b.natAbs := Nat.gcd_pos_of_pos_right _ (by omega)
        have hgl := gcd_log (t := t) hb hlog
        rw [hg]
        generalize hG : Nat.gcd t.natAbs b.natAbs = g at *
        refine ⟨fun σ' H2 => H = H2 ∧ ∃ y0 : Option V, ((b < 0 ∧ σ' = [some (.int (-t)), some (.int (-b)), some (.int (g : Int)), y0]) ∨ (¬ b < 0 ∧ σ' = [some (.int t), some (.int b), some (.int (g : Int)), y0])), ?_, ?_⟩
        · refine ⟨_, rfl, _, _, rfl, rfl, _, rfl, ite2 (fun hd => ?_) (fun hd => ?_)⟩
          · exact ⟨_, rfl, _, rfl, _, rfl, _, rfl, rfl, _, .inl ⟨of_decide_eq_true hd, rfl⟩⟩
          · exact ⟨rfl, _, .inr ⟨nd hd, rfl⟩⟩
        · rintro σ' H2 ⟨rfl, y0, ⟨hn, rfl⟩ | ⟨hn, rfl⟩⟩
          · refine ⟨_, rfl, _, rfl, _, _, rfl, rfl, ⟨by omega, hgl⟩, _, rfl, _, rfl, _, _, rfl, rfl, ⟨by omega, hgl⟩, (by show 2 ≤ sizeLine; decide), fun p hp => ?_⟩
            have := q p hp
            unfold lowI at this
            rw [if_pos hn, hG] at this
            show Q (.ref p) (upd H p (.tup [.int ((-t).fdiv (g : Int)), .int ((-b).fdiv (g : Int))]))
            rw [fdiv_lowP (by omega), fdiv_lowP (by omega)]
            exact this
          · refine ⟨_, rfl, _, rfl, _, _, rfl, rfl, ⟨by omega, hgl⟩, _, rfl, _, rfl, _, _, rfl, rfl, ⟨by omega, hgl⟩, (by show 2 ≤ sizeLine; decide), fun p hp => ?_⟩
            have := q p hp
            unfold lowI at this
            rw [if_neg hn, hG] at this
            show Q (.ref p) (upd H p (.tup [.int (t.fdiv (g : Int)), .int (b.fdiv (g : Int))]))
            rw [fdiv_lowP (by omega), fdiv_lowP (by omega)]
            exact this
    · rintro σ H' Q1 Q2 hQ ⟨v, e, i, j, e1, e2, k, e3, q1⟩
      exact ⟨v, e, i, j, e1, e2, k, e3, hQ _ _ q1⟩
/-- what is told of a pair of ints: whether it is a fraction in lowest terms -/
def sp_part (K : PySem.W.Frag) : Sp := fun vs H Q _ => ∃ (p : Addr) (x y : Int), vs = [.ref p] ∧ H p = some (.tup [.int x, .int y]) ∧ Low x y ∧ y.natAbs.log2 < 9000 ∧ ∀ H', Same H H' → Q (.bl true) H'
theorem ok__law_part (T : Env K mg) : FnOk P w K mg base CX0 2 T.a__law_part T.fd__law_part ["_law_found"] (sp_part K) := by
  refine T.F__law_part.ok sc__law_part (fun vs H Q E h => ?_) (fun cdv A outer s H vs Q E hr h => ?_)
  · obtain ⟨p, x, y, rfl, _⟩ := h
    rfl
  · obtain ⟨p, x, y, rfl, hp, hL, hlog, q⟩ := h
    refine ⟨_, (pss_cons (ps_if (PW.pt (pw_or (pt_not (pt_val (pe_callB call_isi (by rfl) T.m_isinstance (by decide +kernel) (pa_cons (pv 0) (pa_cons (pe_bltn (v := .ty "tuple") (u := .type "tuple") (by rfl) T.m_tuple (by decide +kernel) rfl) pa_nil))))) (pw_or1 (pt_cmpR op_ne (pe_callB (id := "len") call_len_seq (by rfl) T.m_len (by decide +kernel) (pa_cons (pv 0) pa_nil)) pe_int (nomark _)))))
 (pss_one (ps_ret pe_bl))
 pss_nil)
 (pss_cons (ps_if (PW.pt (pw_or (pt_not (pt_val (pe_call (ok__law_whole T) (hr.mono (by decide)) (by rfl) T.g__law_whole T.F__law_whole.kp T.b__law_whole .nil pass0 (pa_cons (pe_ix ix_tup (pv 0) pe_int (fun _ _ => rfl)) pa_nil)))) (pw_or (pt_not (pt_val (pe_call (ok__law_whole T) (hr.mono (by decide)) (by rfl) T.g__law_whole T.F__law_whole.kp T.b__law_whole .nil pass0 (pa_cons (pe_ix ix_tup (pv 0) pe_int (fun _ _ => rfl)) pa_nil)))) (pw_or1 (pt_cmpR op_le (pe_ix ix_tup (pv 0) pe_int (fun _ _ => rfl)) pe_int (nomark _))))))
 (pss_one (ps_ret pe_bl))
 pss_nil)
 (pss_one (ps_ret (pe_cmpR (op_eqD hr.units) (pe_call (ok__law_low T) (hr.mono (by decide)) (by rfl) T.g__law_low T.F__law_low.kp T.b__law_low .nil pass0 (pa_cons (pe_ix ix_tup (pv 0) pe_int (fun _ _ => rfl)) (pa_cons (pe_ix ix_tup (pv 0) pe_int (fun _ _ => rfl)) pa_nil))) (pv 0) (nomark _)))))), ?_⟩
    have hS : SqT K H p [.int x, .int y] := .inl (.inl hp)
    have hpos := hL.pos
    refine ⟨_, rfl, _, _, _, _, _, rfl, .ty _, .base (.tup hp), kit_ty (by decide +kernel), true, rfl, ?_⟩
    show if false = true then _ else _
    rw [if_neg Bool.false_ne_true]
    refine ⟨_, rfl, _, _, rfl, .inr hS, rfl, _, rfl, ?_⟩
    refine iteNS rfl ?_
    refine ⟨_, rfl, _, _, _, _, rfl, rfl, hS, atI_nat (j := 0) rfl, _, rfl, true, rfl, iteF ?_⟩
    refine ⟨_, rfl, _, _, _, _, rfl, rfl, hS, atI_nat (j := 1) rfl, _, rfl, true, rfl, iteF ?_⟩
    refine ⟨_, rfl, _, _, _, _, rfl, rfl, hS, atI_nat (j := 1) rfl, _, _, rfl, rfl, _, rfl, ?_⟩
    rw [decide_eq_false (show ¬ y ≤ 0 by omega)]
    refine iteF ?_
    refine ⟨_, rfl, _, _, _, _, rfl, rfl, hS, atI_nat (j := 0) rfl, _, rfl, _, _, _, _, rfl, rfl, hS, atI_nat (j := 1) rfl, x, y, rfl, by omega, hlog, fun r hr' => ?_⟩
    rw [lowI_self hL]
    have hd : ∀ z H2, H2 z = some (.tup [.int x, .int y]) → Dp K H2 (.ref z) (.tuple [.int x, .int y]) := fun z H2 e => .tup (.inl (.inl e)) (.cons (.int x) (.cons (.int y) .nil))
    have hpr : p ≠ r := ne_of_none hp hr'
    refine ⟨_, rfl, _, _, hd r _ upd_same, hd p _ (by rw [upd_ne hpr]; exact hp), rfl, rfl, ?_⟩
    rw [SeqAt.eqv_refl _ (by rfl)]
    exact q _ (same_new hr')

theorem cut_ints (rs : List Int) (lo : Int) (h0 : 0 ≤ lo) : ∃ rs' : List Int, cutV (rs.map V.int) (some lo) none = rs'.map V.int ∧ rs'.length = rs.length - lo.toNat := by
  refine ⟨(rs.drop lo.toNat), ?_, List.length_drop⟩
  unfold cutV
  rw [HT.sIx_none]
  have e : HT.sIx (rs.map V.int).length 0 (some lo) = min lo.toNat (rs.map V.int).length := by
    show (if lo < 0 then _ else _) = _
    rw [if_neg (by omega)]
  rw [e, List.length_map]
  have h2 : (rs.map V.int).drop (min lo.toNat rs.length) = (rs.drop lo.toNat).map V.int := by
    rw [List.map_drop]
    rcases Nat.le_total lo.toNat rs.length with h | h
    · rw [Nat.min_eq_left h]
    · rw [Nat.min_eq_right h, List.drop_of_length_le (by rw [List.length_map]; exact Nat.le_refl _), List.drop_of_length_le (by rw [List.length_map]; exact h)]
  rw [h2, List.take_of_length_le]
  rw [List.length_map, List.length_drop]
  omega
theorem int_at {rs : List Int} {k : Nat} (h : k < rs.length) : ∃ v : Int, v ∈ rs ∧ atI (rs.map V.int) (k : Int) = some (.int v) := by
  refine ⟨rs[k], List.getElem_mem h, atI_nat ?_⟩
  rw [List.getElem?_map, List.getElem?_eq_getElem h]
  rfl
theorem cut_take (xs : List V) (k : Nat) : cutV xs none (some (k : Int)) = xs.take k := by
  unfold cutV
  rw [HT.sIx_none, HT.sIx_nat, List.drop_zero, Nat.sub_zero, Nat.min_def]
  split
  · rfl
  · rw [List.take_length, List.take_of_length_le (by omega)]
theorem cut_drop (xs : List V) (k : Nat) : cutV xs (some (k : Int)) none = xs.drop k := by
  unfold cutV
  rw [HT.sIx_none, HT.sIx_nat]
  have e : xs.drop (min k xs.length) = xs.drop k := by
    rw [Nat.min_def]
    split
    · rfl
    · rw [List.drop_length, List.drop_of_length_le (by omega)]
  rw [e, List.take_of_length_le]
  rw [List.length_drop]
  omega
theorem yes_read {A B : Hp → Prop} {σ : L2.St} {H : Hp} (h : A H) : tYes σ H (fun b H3 => if b = true then A H3 else B H3) := by
  show if true = true then A H else B H
  rw [if_pos rfl]
  exact h
theorem small200 {n : Nat} (h : n ≤ 200) : n ≤ sizeLine := Nat.le_trans h (by decide)
theorem small200' {n : Nat} (h : n < 200) : n < sizeLine := Nat.lt_of_lt_of_le h (by decide)
theorem take_more {α : Type} {l : List α} {i : Nat} {x : α} (h : l[i]? = some x) : l.take (i + 1) = l.take i ++ [x] := by
  rw [List.take_add_one, h]; rfl

/-! ### lowest -/
def sp_lowest (C : Addr) : Sp := fun vs H Q E => ∃ t b : Int, vs = [.int t, .int b] ∧ b.natAbs.log2 < 9000 ∧ (b = 0 → E (.ref C) none H) ∧
  (b ≠ 0 → ∀ p, H p = none → Q (.ref p) (upd H p (.tup [.int (lowI t b).1, .int (lowI t b).2])))
theorem ok_lowest (T : Env K mg) : FnOk P w K mg base (L2.CX P w) 1 T.a_lowest T.fd_lowest ["top", "bottom"] (sp_lowest T.C_NoFraction) := by
  refine T.F_lowest.okX sc_lowest (fun vs H Q E h => ?_) (fun cdv A outer s H vs Q E hr h => ?_)
  · obtain ⟨t, b, rfl, _⟩ := h
    rfl
  · obtain ⟨t, b, rfl, hlog, k0, k1⟩ := h
    refine ⟨_, (pss_cons (ps_if (pt_cmpR op_eq (pv 1) pe_int (nomark _))
 (pss_one (ps_raise rfl (takes_of rfl rfl rfl rfl) (pmk_own PySem.F.excBase_ValueError T.x_NoFraction T.c_NoFraction T.k_NoFraction (raises_own T.bs_NoFraction T.ty_NoFraction) rfl)))
 pss_nil)
 (pss_cons (ps_set (i := 2) sc_lowest.nd rfl (.inl rfl) (pe_callBfun cr_gcd (by rfl) T.m_gcd (pa_cons (pv 0) (pa_cons (pv 1) pa_nil))))
 (C8.pss_cut (ps_if (pt_cmpR op_lt (pv 1) pe_int (nomark _))
 (pss_one (ps_set (i := 2) sc_lowest.nd rfl (.inl rfl) (pe_un un_neg (pv 2))))
 pss_nil)
 (pss_one (ps_ret (pe_tup (pa_cons (pe_op op_fdivX (pv 0) (pv 2)) (pa_cons (pe_op op_fdivX (pv 1) (pv 2)) pa_nil)))))))), ?_⟩
    refine ⟨_, rfl, rfl, _, rfl, ite2 (fun hd => ?_) (fun hd => ?_)⟩
    · exact k0 (V.int.inj (of_decide_eq_true hd))
    · have hb : b ≠ 0 := fun z => hd (by rw [z]; rfl)
      have q := k1 hb
      have hgp : 0 < Nat.gcd t.natAbs b.natAbs := Nat.gcd_pos_of_pos_right _ (by omega)
      have hgl := gcd_log (t := t) hb hlog
      refine ⟨_, rfl, _, rfl, _, _, rfl, ?_⟩
      generalize hG : Nat.gcd t.natAbs b.natAbs = g at *
      refine ⟨fun σ' H2 => H = H2 ∧ ((b < 0 ∧ σ' = [some (.int t), some (.int b), some (.int (-(g : Int)))]) ∨ (¬ b < 0 ∧ σ' = [some (.int t), some (.int b), some (.int (g : Int))])), ?_, ?_⟩
      · refine ⟨_, rfl, _, _, rfl, rfl, _, rfl, ite2 (fun hd => ?_) (fun hd => ?_)⟩
        · exact ⟨_, rfl, _, rfl, rfl, .inl ⟨of_decide_eq_true hd, rfl⟩⟩
        · exact ⟨rfl, .inr ⟨nd hd, rfl⟩⟩
      · rintro σ' H2 ⟨rfl, ⟨hn, rfl⟩ | ⟨hn, rfl⟩⟩
        · have hgn : (-(g : Int)).natAbs.log2 < 9000 := by rw [Int.natAbs_neg]; exact hgl
          refine ⟨_, rfl, _, rfl, _, _, rfl, rfl, ⟨by omega, hgn⟩, _, rfl, _, rfl, _, _, rfl, rfl, ⟨by omega, hgn⟩, (by show 2 ≤ sizeLine; decide), fun p hp => ?_⟩
          have := q p hp
          unfold lowI at this
          rw [if_pos hn, hG] at this
          show Q (.ref p) (upd H p (.tup [.int (t.fdiv (-(g : Int))), .int (b.fdiv (-(g : Int)))]))
          rw [fdiv_lowN (by omega), fdiv_lowN (by omega)]
          exact this
        · refine ⟨_, rfl, _, rfl, _, _, rfl, rfl, ⟨by omega, hgl⟩, _, rfl, _, rfl, _, _, rfl, rfl, ⟨by omega, hgl⟩, (by show 2 ≤ sizeLine; decide), fun p hp => ?_⟩
          have := q p hp
          unfold lowI at this
          rw [if_neg hn, hG] at this
          show Q (.ref p) (upd H p (.tup [.int (t.fdiv (g : Int)), .int (b.fdiv (g : Int))]))
          rw [fdiv_lowP (by omega), fdiv_lowP (by omega)]
          exact this

/-! ### parts: plus, less, times, over, smaller -/
theorem lt_mul {i j : Int} {a b n : Nat} (ha : i.natAbs < 2 ^ a) (hb : j.natAbs < 2 ^ b) (h : a + b ≤ n) : (i * j).natAbs < 2 ^ n :=
  Nat.lt_of_lt_of_le (wide_lt ha hb) (Nat.pow_le_pow_right (by decide) h)
theorem lt_add {i j : Int} {a n : Nat} (ha : i.natAbs < 2 ^ a) (hb : j.natAbs < 2 ^ a) (h : a + 1 ≤ n) : (i + j).natAbs < 2 ^ n := by
  have h1 : (i + j).natAbs < 2 ^ (a + 1) := by
    have := Int.natAbs_add_le i j
    rw [Nat.pow_succ]
    omega
  exact Nat.lt_of_lt_of_le h1 (Nat.pow_le_pow_right (by decide) h)
theorem lt_sub {i j : Int} {a n : Nat} (ha : i.natAbs < 2 ^ a) (hb : j.natAbs < 2 ^ a) (h : a + 1 ≤ n) : (i - j).natAbs < 2 ^ n := by
  rw [Int.sub_eq_add_neg]
  exact lt_add ha (by rw [Int.natAbs_neg]; exact hb) h
theorem mulW {i j : Int} {a b : Nat} (ha : i.natAbs < 2 ^ a) (hb : j.natAbs < 2 ^ b) (h0 : 0 < a) (h1 : 0 < b) (h : a + b ≤ 1000000) : IntMulOk i j := (wide_mul ha hb h0 h1 h).ok

/-! ### fractions above nought, told by their values -/
structure Frac (b : Nat) (x : Int × Int) : Prop where
  top : 0 < x.1
  low : Low x.1 x.2
  bt : x.1.natAbs < 2 ^ b
  bb : x.2.natAbs < 2 ^ b
theorem Frac.more {a b : Nat} {x : Int × Int} (h : Frac a x) (l : a ≤ b) : Frac b x :=
  ⟨h.top, h.low, Nat.lt_of_lt_of_le h.bt (Nat.pow_le_pow_right (by decide) l), Nat.lt_of_lt_of_le h.bb (Nat.pow_le_pow_right (by decide) l)⟩
theorem lowV {t b : Int} {k : Nat} (ht : 0 < t) (hb : 0 < b) (h1 : t.natAbs < 2 ^ k) (h2 : b.natAbs < 2 ^ k) : Frac k (lowI t b) := by
  obtain ⟨L, e, e1, e2⟩ := lowI_ok (t := t) (b := b) (by omega)
  refine ⟨?_, L, by omega, by omega⟩
  have h3 : 0 < (lowI t b).1 * b := by rw [e]; exact Int.mul_pos L.pos ht
  exact Int.pos_of_mul_pos_left h3 hb
def mulV (x y : Int × Int) : Int × Int := lowI (x.1 * y.1) (x.2 * y.2)
def divV (x y : Int × Int) : Int × Int := lowI (x.1 * y.2) (x.2 * y.1)
def addV (x y : Int × Int) : Int × Int := lowI (x.1 * y.2 + y.1 * x.2) (x.2 * y.2)
theorem mulV_frac {a b : Nat} {x y : Int × Int} (h : Frac a x) (k : Frac b y) : Frac (a + b) (mulV x y) :=
  lowV (Int.mul_pos h.top k.top) (Int.mul_pos h.low.pos k.low.pos) (lt_mul h.bt k.bt (Nat.le_refl _)) (lt_mul h.bb k.bb (Nat.le_refl _))
theorem divV_frac {a b : Nat} {x y : Int × Int} (h : Frac a x) (k : Frac b y) : Frac (a + b) (divV x y) :=
  lowV (Int.mul_pos h.top k.low.pos) (Int.mul_pos h.low.pos k.top) (lt_mul h.bt k.bb (Nat.le_refl _)) (lt_mul h.bb k.bt (Nat.le_refl _))
theorem addV_frac {a b : Nat} {x y : Int × Int} (h : Frac a x) (k : Frac b y) : Frac (a + b + 1) (addV x y) := by
  have h1 := Int.mul_pos h.top k.low.pos
  have h2 := Int.mul_pos k.top h.low.pos
  refine lowV (by omega) (Int.mul_pos h.low.pos k.low.pos) (lt_add (a := a + b) (lt_mul h.bt k.bb (Nat.le_refl _)) ?_ (Nat.le_refl _)) (lt_mul h.bb k.bb (by omega))
  rw [Int.mul_comm]
  exact lt_mul h.bb k.bt (Nat.le_refl _)
theorem mulV_comm (x y : Int × Int) : mulV x y = mulV y x := by
  unfold mulV
  rw [Int.mul_comm x.1, Int.mul_comm x.2]
theorem addV_comm (x y : Int × Int) : addV x y = addV y x := by
  unfold addV
  rw [Int.add_comm, Int.mul_comm x.2]
theorem Frac.log {b : Nat} {x : Int × Int} (h : Frac b x) (l : b ≤ 4000) : x.2.natAbs.log2 < 9000 :=
  log_small (b := 4000) (by decide) (Nat.lt_of_lt_of_le h.bb (Nat.pow_le_pow_right (by decide) l)) (by decide)
/-- two fractions are handed in; F tells what comes of them -/
def sp_bin (K : PySem.W.Frag) (F : Int × Int → Int × Int → Int × Int) : Sp := fun vs H Q _ => ∃ (x y : V) (p q : Int × Int), vs = [x, y] ∧ PrAt K H x p ∧ PrAt K H y q ∧ Frac 4000 p ∧ Frac 4000 q ∧
  ∀ H' v, Same H H' → PrAt K H' v (F p q) → Q v H'
theorem bin_out {H : Hp} {Q : VK} {z : Int × Int} (k : ∀ H' v, Same H H' → PrAt K H' v z → Q v H') : ∀ r, H r = none → Q (.ref r) (upd H r (.tup [.int z.1, .int z.2])) :=
  fun r hr => k _ _ (same_new hr) ⟨r, rfl, upd_same⟩
theorem ok__law_mul (T : Env K mg) : FnOk P w K mg base CX0 2 T.a__law_mul T.fd__law_mul ["_law_one", "_law_other"] (sp_bin K mulV) := by
  refine T.F__law_mul.ok sc__law_mul (fun vs H Q E h => ?_) (fun cdv A outer s H vs Q E hr h => ?_)
  · obtain ⟨x, y, p, q, rfl, _⟩ := h
    rfl
  · obtain ⟨x, y, p, q, rfl, hx, hy, fp, fq, k⟩ := h
    refine ⟨_, (pss_one (ps_ret (pe_call (ok__law_low T) (hr.mono (by decide)) (by rfl) T.g__law_low T.F__law_low.kp T.b__law_low .nil pass0 (pa_cons (pe_op op_mulU (pe_ix ix_tup (pv 0) pe_int (fun _ _ => rfl)) (pe_ix ix_tup (pv 1) pe_int (fun _ _ => rfl))) (pa_cons (pe_op op_mulU (pe_ix ix_tup (pv 0) pe_int (fun _ _ => rfl)) (pe_ix ix_tup (pv 1) pe_int (fun _ _ => rfl))) pa_nil))))), ?_⟩
    obtain ⟨a, rfl, ha⟩ := hx.sq
    obtain ⟨b, rfl, hb⟩ := hy.sq
    refine ⟨_, rfl, a, _, _, _, rfl, rfl, ha, atI_nat (j := 0) rfl, _, rfl, b, _, _, _, rfl, rfl, hb, atI_nat (j := 0) rfl, _, _, rfl, rfl, mulW fp.bt fq.bt (by decide) (by decide) (by decide), ?_⟩
    refine ⟨_, rfl, a, _, _, _, rfl, rfl, ha, atI_nat (j := 1) rfl, _, rfl, b, _, _, _, rfl, rfl, hb, atI_nat (j := 1) rfl, _, _, rfl, rfl, mulW fp.bb fq.bb (by decide) (by decide) (by decide), ?_⟩
    have hbp := Int.mul_pos fp.low.pos fq.low.pos
    exact ⟨_, _, rfl, by omega, log_small (by decide) (lt_mul (n := 8999) fp.bb fq.bb (by decide)) (by decide), bin_out k⟩
theorem ok__law_div (T : Env K mg) : FnOk P w K mg base CX0 2 T.a__law_div T.fd__law_div ["_law_one", "_law_other"] (sp_bin K divV) := by
  refine T.F__law_div.ok sc__law_div (fun vs H Q E h => ?_) (fun cdv A outer s H vs Q E hr h => ?_)
  · obtain ⟨x, y, p, q, rfl, _⟩ := h
    rfl
  · obtain ⟨x, y, p, q, rfl, hx, hy, fp, fq, k⟩ := h
    refine ⟨_, (pss_one (ps_ret (pe_call (ok__law_low T) (hr.mono (by decide)) (by rfl) T.g__law_low T.F__law_low.kp T.b__law_low .nil pass0 (pa_cons (pe_op op_mulU (pe_ix ix_tup (pv 0) pe_int (fun _ _ => rfl)) (pe_ix ix_tup (pv 1) pe_int (fun _ _ => rfl))) (pa_cons (pe_op op_mulU (pe_ix ix_tup (pv 0) pe_int (fun _ _ => rfl)) (pe_ix ix_tup (pv 1) pe_int (fun _ _ => rfl))) pa_nil))))), ?_⟩
    obtain ⟨a, rfl, ha⟩ := hx.sq
    obtain ⟨b, rfl, hb⟩ := hy.sq
    refine ⟨_, rfl, a, _, _, _, rfl, rfl, ha, atI_nat (j := 0) rfl, _, rfl, b, _, _, _, rfl, rfl, hb, atI_nat (j := 1) rfl, _, _, rfl, rfl, mulW fp.bt fq.bb (by decide) (by decide) (by decide), ?_⟩
    refine ⟨_, rfl, a, _, _, _, rfl, rfl, ha, atI_nat (j := 1) rfl, _, rfl, b, _, _, _, rfl, rfl, hb, atI_nat (j := 0) rfl, _, _, rfl, rfl, mulW fp.bb fq.bt (by decide) (by decide) (by decide), ?_⟩
    have hbp := Int.mul_pos fp.low.pos fq.top
    exact ⟨_, _, rfl, by omega, log_small (by decide) (lt_mul (n := 8999) fp.bb fq.bt (by decide)) (by decide), bin_out k⟩
/-! ### fractions with a bound of its own for top and bottom -/
structure F2 (t b : Nat) (x : Int × Int) : Prop where
  top : 0 < x.1
  low : Low x.1 x.2
  bt : x.1 < 2 ^ t
  bb : x.2 < 2 ^ b
theorem ipow_le {a b : Nat} (h : a ≤ b) : (2 : Int) ^ a ≤ 2 ^ b := by
  have := Nat.pow_le_pow_right (n := 2) (by decide) h
  exact_mod_cast this
theorem F2.more {t b t' b' : Nat} {x : Int × Int} (h : F2 t b x) (l1 : t ≤ t') (l2 : b ≤ b') : F2 t' b' x := by
  have p1 : (2 : Int) ^ t ≤ 2 ^ t' := ipow_le l1
  have p2 : (2 : Int) ^ b ≤ 2 ^ b' := ipow_le l2
  exact ⟨h.top, h.low, Int.lt_of_lt_of_le h.bt p1, Int.lt_of_lt_of_le h.bb p2⟩
theorem natAbs_lt_pow {x : Int} {k : Nat} (h : 0 < x) : x.natAbs < 2 ^ k ↔ x < 2 ^ k := by
  have e : ((2 ^ k : Nat) : Int) = (2 : Int) ^ k := by rw [Int.natCast_pow]; rfl
  omega
theorem F2.frac {t b k : Nat} {x : Int × Int} (h : F2 t b x) (l1 : t ≤ k) (l2 : b ≤ k) : Frac k x :=
  have g := h.more l1 l2
  ⟨g.top, g.low, (natAbs_lt_pow g.top).mpr g.bt, (natAbs_lt_pow g.low.pos).mpr g.bb⟩
theorem Frac.f2 {k : Nat} {x : Int × Int} (h : Frac k x) : F2 k k x := ⟨h.top, h.low, (natAbs_lt_pow h.top).mp h.bt, (natAbs_lt_pow h.low.pos).mp h.bb⟩
theorem pow2_mul {a b : Int} {s t : Nat} (ha : 0 < a) (hb : 0 < b) (h1 : a < 2 ^ s) (h2 : b < 2 ^ t) : a * b < 2 ^ (s + t) := by
  rw [Int.pow_add]
  exact Int.lt_of_lt_of_le (Int.mul_lt_mul_of_pos_right h1 hb) (Int.mul_le_mul_of_nonneg_left (Int.le_of_lt h2) (Int.le_of_lt (Int.pow_pos (by decide))))
theorem lowI_f2 {t b : Int} {s k : Nat} (ht : 0 < t) (hb : 0 < b) (h1 : t < 2 ^ s) (h2 : b < 2 ^ k) : F2 s k (lowI t b) := by
  obtain ⟨L, e, l1, l2⟩ := lowI_pos (t := t) hb
  have hp := L.pos
  have h3 : 0 < (lowI t b).1 := by
    have h4 : 0 < (lowI t b).1 * b := by rw [e]; exact Int.mul_pos hp ht
    rw [Int.mul_comm] at h4
    exact Int.pos_of_mul_pos_right h4 hb
  refine ⟨h3, L, ?_, by omega⟩
  have : (lowI t b).1 ≤ t := by omega
  omega
theorem F2.mul {s t s' t' : Nat} {x y : Int × Int} (h : F2 s t x) (k : F2 s' t' y) : F2 (s + s') (t + t') (mulV x y) :=
  lowI_f2 (Int.mul_pos h.top k.top) (Int.mul_pos h.low.pos k.low.pos) (pow2_mul h.top k.top h.bt k.bt) (pow2_mul h.low.pos k.low.pos h.bb k.bb)
theorem F2.div {s t s' t' : Nat} {x y : Int × Int} (h : F2 s t x) (k : F2 s' t' y) : F2 (s + t') (t + s') (divV x y) :=
  lowI_f2 (Int.mul_pos h.top k.low.pos) (Int.mul_pos h.low.pos k.top) (pow2_mul h.top k.low.pos h.bt k.bb) (pow2_mul h.low.pos k.top h.bb k.bt)
theorem F2.add {s t s' t' : Nat} {x y : Int × Int} (h : F2 s t x) (k : F2 s' t' y) : F2 (max (s + t') (s' + t) + 1) (t + t') (addV x y) := by
  have h1 := Int.mul_pos h.top k.low.pos
  have h2 := Int.mul_pos k.top h.low.pos
  have p1 := pow2_mul h.top k.low.pos h.bt k.bb
  have p2 := pow2_mul k.top h.low.pos k.bt h.bb
  have q1 : (2 : Int) ^ (s + t') ≤ 2 ^ (max (s + t') (s' + t)) := ipow_le (Nat.le_max_left _ _)
  have q2 : (2 : Int) ^ (s' + t) ≤ 2 ^ (max (s + t') (s' + t)) := ipow_le (Nat.le_max_right _ _)
  refine lowI_f2 (by omega) (Int.mul_pos h.low.pos k.low.pos) ?_ (pow2_mul h.low.pos k.low.pos h.bb k.bb)
  rw [Int.pow_succ]
  omega
def sp_size (K : PySem.W.Frag) : Sp := fun vs H Q _ => ∃ n : Int, vs = [.int n] ∧ ∀ H' v x, Same H H' → PrAt K H' v x → F2 10 7 x → Q v H'
theorem ok__law_size (T : Env K mg) : FnOk P w K mg base CX0 2 T.a__law_size T.fd__law_size ["_law_one"] (sp_size K) := by
  refine T.F__law_size.ok sc__law_size (fun vs H Q E h => ?_) (fun cdv A outer s H vs Q E hr h => ?_)
  · obtain ⟨n, rfl, _⟩ := h
    rfl
  · obtain ⟨n, rfl, k⟩ := h
    refine ⟨_, (pss_cons (ps_if (pt_cmpR op_eq (pe_op op_mod (pv 0) pe_int) pe_int (nomark _))
 (pss_one (ps_ret (pe_call (ok__law_low T) (hr.mono (by decide)) (by rfl) T.g__law_low T.F__law_low.kp T.b__law_low .nil pass0 (pa_cons (pe_op op_add pe_int (pe_op op_mod (pe_op op_fdiv (pv 0) pe_int) pe_int)) (pa_cons (pe_op op_add pe_int (pe_op op_mod (pe_op op_fdiv (pv 0) pe_int) pe_int)) pa_nil)))))
 pss_nil)
 (pss_one (ps_ret (pe_call (ok__law_low T) (hr.mono (by decide)) (by rfl) T.g__law_low T.F__law_low.kp T.b__law_low .nil pass0 (pa_cons (pe_op op_add pe_int (pe_op op_mod (pv 0) pe_int)) (pa_cons (pe_op op_add pe_int (pe_op op_mod (pe_op op_fdiv (pv 0) pe_int) pe_int)) pa_nil)))))), ?_⟩
    have out : ∀ t b : Int, 0 < t → 0 < b → t < 1000 → b < 100 → b ≠ 0 ∧ b.natAbs.log2 < 9000 ∧ ∀ r, H r = none → Q (.ref r) (upd H r (.tup [.int (lowI t b).1, .int (lowI t b).2])) := fun t b h1 h2 h3 h4 =>
      ⟨by omega, log_small (b := 10) (by decide) (by omega) (by decide), fun r hr => k _ _ _ (same_new hr) ⟨r, rfl, upd_same⟩ (lowI_f2 h1 h2 (by omega) (by omega))⟩
    have m := fun (z : Int) (d : Int) (hd : 0 < d) => And.intro (Int.emod_nonneg z (show d ≠ 0 by omega)) (Int.emod_lt_of_pos z hd)
    have m1 := m (n / 11) 997 (by decide)
    have m2 := m (n / 7) 89 (by decide)
    have m3 := m n 12 (by decide)
    have m4 := m (n / 12) 7 (by decide)
    refine ⟨_, rfl, _, _, rfl, rfl, (by show (0 : Int) < _; decide), rfl, _, rfl, ite2 (fun _ => ?_) (fun _ => ?_)⟩
    · refine ⟨_, rfl, _, _, rfl, rfl, ⟨by decide, by decide⟩, _, _, rfl, rfl, (by show (0 : Int) < _; decide), _, _, rfl, rfl, ?_⟩
      refine ⟨_, rfl, _, _, rfl, rfl, ⟨by decide, by decide⟩, _, _, rfl, rfl, (by show (0 : Int) < _; decide), _, _, rfl, rfl, ?_⟩
      exact ⟨_, _, rfl, out _ _ (by omega) (by omega) (by omega) (by omega)⟩
    · refine ⟨_, rfl, _, _, rfl, rfl, (by show (0 : Int) < _; decide), _, _, rfl, rfl, ?_⟩
      refine ⟨_, rfl, _, _, rfl, rfl, ⟨by decide, by decide⟩, _, _, rfl, rfl, (by show (0 : Int) < _; decide), _, _, rfl, rfl, ?_⟩
      exact ⟨_, _, rfl, out _ _ (by omega) (by omega) (by omega) (by omega)⟩

/-! ### fractions as rationals -/
def vq (x : Int × Int) : Rat := (x.1 : Rat) / (x.2 : Rat)
theorem cast_ne {b : Int} (h : b ≠ 0) : (b : Rat) ≠ 0 := fun e => h (Rat.intCast_inj.mp (by rw [e]; rfl))
theorem vq_low {t b : Int} (h : b ≠ 0) : vq (lowI t b) = (t : Rat) / (b : Rat) := by
  obtain ⟨L, e, _, _⟩ := lowI_ok (t := t) h
  have hp := L.pos
  have h2 : ((lowI t b).2 : Rat) ≠ 0 := cast_ne (by omega)
  have hb := cast_ne h
  have e' : ((lowI t b).1 : Rat) * (b : Rat) = ((lowI t b).2 : Rat) * (t : Rat) := by
    rw [← Rat.intCast_mul, ← Rat.intCast_mul, e]
  unfold vq
  grind
theorem vq_inj {x y : Int × Int} (hx : Low x.1 x.2) (hy : Low y.1 y.2) (h : vq x = vq y) : x = y := by
  have h1 : (x.2 : Rat) ≠ 0 := cast_ne (by have := hx.pos; omega)
  have h2 : (y.2 : Rat) ≠ 0 := cast_ne (by have := hy.pos; omega)
  have e : (x.1 : Rat) * (y.2 : Rat) = (y.1 : Rat) * (x.2 : Rat) := by
    unfold vq at h
    grind
  rw [← Rat.intCast_mul, ← Rat.intCast_mul] at e
  have := low_same hx hy (Rat.intCast_inj.mp e)
  exact Prod.ext this.1 this.2
theorem Frac.n1 {b : Nat} {x : Int × Int} (h : Frac b x) : (x.1 : Rat) ≠ 0 := cast_ne (by have := h.top; omega)
theorem Frac.n2 {b : Nat} {x : Int × Int} (h : Frac b x) : (x.2 : Rat) ≠ 0 := cast_ne (by have := h.low.pos; omega)
theorem vq_mul {a b : Nat} {x y : Int × Int} (hx : Frac a x) (hy : Frac b y) : vq (mulV x y) = vq x * vq y := by
  have h1 := hx.n2
  have h2 := hy.n2
  unfold mulV
  rw [vq_low (by have := Int.mul_pos hx.low.pos hy.low.pos; omega), Rat.intCast_mul, Rat.intCast_mul]
  unfold vq
  grind
theorem vq_div {a b : Nat} {x y : Int × Int} (hx : Frac a x) (hy : Frac b y) : vq (divV x y) = vq x / vq y := by
  have h1 := hx.n2
  have h2 := hy.n2
  have h3 := hy.n1
  unfold divV
  rw [vq_low (by have := Int.mul_pos hx.low.pos hy.top; omega), Rat.intCast_mul, Rat.intCast_mul]
  unfold vq
  grind
theorem vq_add {a b : Nat} {x y : Int × Int} (hx : Frac a x) (hy : Frac b y) : vq (addV x y) = vq x + vq y := by
  have h1 := hx.n2
  have h2 := hy.n2
  unfold addV
  rw [vq_low (by have := Int.mul_pos hx.low.pos hy.low.pos; omega), Rat.intCast_add, Rat.intCast_mul, Rat.intCast_mul, Rat.intCast_mul]
  unfold vq
  grind
theorem vq_ne {b : Nat} {x : Int × Int} (h : Frac b x) : vq x ≠ 0 := by
  have h1 := h.n1
  have h2 := h.n2
  unfold vq
  grind
theorem one_frac : Frac 1 (1, 1) := ⟨by decide, ⟨by decide, by decide⟩, by decide, by decide⟩
theorem vq_one : vq (1, 1) = 1 := by
  unfold vq
  show ((1 : Int) : Rat) / ((1 : Int) : Rat) = 1
  rw [Rat.intCast_one]
  grind

/-! ### fractions of any sign, told by their worth -/
def frq (r : Rat) : Int × Int := (r.num, (r.den : Int))
theorem frq_low (r : Rat) : Low (frq r).1 (frq r).2 := ⟨Int.natCast_pos.mpr r.den_pos, by show Nat.gcd r.num.natAbs ((r.den : Int)).natAbs = 1; rw [Int.natAbs_natCast]; exact r.reduced⟩
theorem vq_frq (r : Rat) : vq (frq r) = r := by
  show (r.num : Rat) / ((r.den : Int) : Rat) = r
  rw [← Rat.divInt_eq_div, Rat.num_divInt_den]
theorem frq_neg (r : Rat) : frq (-r) = (-(frq r).1, (frq r).2) := by
  unfold frq
  rw [Rat.neg_num, Rat.neg_den]
theorem frq_zero : frq 0 = (0, 1) := rfl
theorem frq_one : frq 1 = (1, 1) := rfl
theorem frq_vq {x : Int × Int} (h : Low x.1 x.2) : frq (vq x) = x := vq_inj (frq_low _) h (vq_frq _)
theorem frq_inj {a b : Rat} (h : frq a = frq b) : a = b := by rw [← vq_frq a, h, vq_frq]
structure Bq (t b : Nat) (r : Rat) : Prop where
  top : (frq r).1.natAbs < 2 ^ t
  bot : (frq r).2.natAbs < 2 ^ b
theorem Bq.more {t b t' b' : Nat} {r : Rat} (h : Bq t b r) (l1 : t ≤ t') (l2 : b ≤ b') : Bq t' b' r :=
  ⟨Nat.lt_of_lt_of_le h.top (Nat.pow_le_pow_right (by decide) l1), Nat.lt_of_lt_of_le h.bot (Nat.pow_le_pow_right (by decide) l2)⟩
theorem Bq.neg {t b : Nat} {r : Rat} (h : Bq t b r) : Bq t b (-r) := by
  refine ⟨?_, ?_⟩
  · rw [frq_neg, Int.natAbs_neg]; exact h.top
  · rw [frq_neg]; exact h.bot
theorem Bq.zero : Bq 1 1 0 := ⟨by rw [frq_zero]; decide, by rw [frq_zero]; decide⟩
theorem F2.bq {t b : Nat} {x : Int × Int} (h : F2 t b x) : Bq t b (vq x) := by
  refine ⟨?_, ?_⟩
  · rw [frq_vq h.low]; exact (natAbs_lt_pow h.top).mpr h.bt
  · rw [frq_vq h.low]; exact (natAbs_lt_pow h.low.pos).mpr h.bb
theorem low_div {t b : Int} (h : b ≠ 0) : lowI t b = frq ((t : Rat) / (b : Rat)) := vq_inj (lowI_ok h).1 (frq_low _) (by rw [vq_low h, vq_frq])
theorem bq_div {t b : Int} {s k : Nat} (h : b ≠ 0) (h1 : t.natAbs < 2 ^ s) (h2 : b.natAbs < 2 ^ k) : Bq s k ((t : Rat) / (b : Rat)) := by
  obtain ⟨L, e, e1, e2⟩ := lowI_ok (t := t) h
  rw [low_div h] at e1 e2
  exact ⟨Nat.lt_of_le_of_lt e2 h1, Nat.lt_of_le_of_lt e1 h2⟩
theorem q_at (r : Rat) : r = ((frq r).1 : Rat) / ((frq r).2 : Rat) := (vq_frq r).symm
theorem q_pos (r : Rat) : 0 < (frq r).2 := (frq_low r).pos
theorem q_ne (r : Rat) : ((frq r).2 : Rat) ≠ 0 := cast_ne (by have := q_pos r; omega)
theorem q_top {r : Rat} (h : r ≠ 0) : (frq r).1 ≠ 0 := fun e => h (by rw [q_at r, e]; show (0 : Rat) / _ = 0; grind)
theorem mul_at (a b : Rat) : a * b = (((frq a).1 * (frq b).1 : Int) : Rat) / (((frq a).2 * (frq b).2 : Int) : Rat) := by
  have h1 := q_at a
  have h2 := q_at b
  have n1 := q_ne a
  have n2 := q_ne b
  rw [Rat.intCast_mul, Rat.intCast_mul]
  generalize ((frq a).1 : Rat) = p at *
  generalize ((frq b).1 : Rat) = q at *
  generalize ((frq a).2 : Rat) = u at *
  generalize ((frq b).2 : Rat) = v at *
  subst h1; subst h2
  grind
theorem add_at (a b : Rat) : a + b = (((frq a).1 * (frq b).2 + (frq b).1 * (frq a).2 : Int) : Rat) / (((frq a).2 * (frq b).2 : Int) : Rat) := by
  have h1 := q_at a
  have h2 := q_at b
  have n1 := q_ne a
  have n2 := q_ne b
  rw [Rat.intCast_add, Rat.intCast_mul, Rat.intCast_mul, Rat.intCast_mul]
  generalize ((frq a).1 : Rat) = p at *
  generalize ((frq b).1 : Rat) = q at *
  generalize ((frq a).2 : Rat) = u at *
  generalize ((frq b).2 : Rat) = v at *
  subst h1; subst h2
  grind
theorem div_at {a b : Rat} (hb : b ≠ 0) : a / b = (((frq a).1 * (frq b).2 : Int) : Rat) / (((frq a).2 * (frq b).1 : Int) : Rat) := by
  have h1 := q_at a
  have h2 := q_at b
  have n1 := q_ne a
  have n2 := q_ne b
  have n3 := cast_ne (q_top hb)
  rw [Rat.intCast_mul, Rat.intCast_mul]
  generalize ((frq a).1 : Rat) = p at *
  generalize ((frq b).1 : Rat) = q at *
  generalize ((frq a).2 : Rat) = u at *
  generalize ((frq b).2 : Rat) = v at *
  subst h1; subst h2
  grind
theorem pos_mul (a b : Rat) : (frq a).2 * (frq b).2 ≠ 0 := by have := Int.mul_pos (q_pos a) (q_pos b); omega
theorem pos_div (a : Rat) {b : Rat} (h : b ≠ 0) : (frq a).2 * (frq b).1 ≠ 0 := fun e => by
  rcases Int.mul_eq_zero.mp e with z | z
  · have := q_pos a; omega
  · exact q_top h z
theorem mulV_q (a b : Rat) : mulV (frq a) (frq b) = frq (a * b) := by unfold mulV; rw [low_div (pos_mul a b), ← mul_at]
theorem addV_q (a b : Rat) : addV (frq a) (frq b) = frq (a + b) := by unfold addV; rw [low_div (pos_mul a b), ← add_at]
theorem divV_q (a : Rat) {b : Rat} (h : b ≠ 0) : divV (frq a) (frq b) = frq (a / b) := by unfold divV; rw [low_div (pos_div a h), ← div_at h]
theorem Bq.mul {s t s' t' : Nat} {a b : Rat} (h : Bq s t a) (k : Bq s' t' b) : Bq (s + s') (t + t') (a * b) := by
  rw [mul_at]
  exact bq_div (pos_mul a b) (lt_mul h.top k.top (Nat.le_refl _)) (lt_mul h.bot k.bot (Nat.le_refl _))
theorem Bq.div {s t s' t' : Nat} {a b : Rat} (h : Bq s t a) (k : Bq s' t' b) (n : b ≠ 0) : Bq (s + t') (t + s') (a / b) := by
  rw [div_at n]
  exact bq_div (pos_div a n) (lt_mul h.top k.bot (Nat.le_refl _)) (lt_mul h.bot k.top (Nat.le_refl _))
theorem Bq.add {s t s' t' m : Nat} {a b : Rat} (h : Bq s t a) (k : Bq s' t' b) (l1 : s + t' ≤ m) (l2 : s' + t ≤ m) : Bq (m + 1) (t + t') (a + b) := by
  rw [add_at]
  exact bq_div (pos_mul a b) (lt_add (a := m) (lt_mul h.top k.bot l1) (lt_mul k.top h.bot l2) (Nat.le_refl _)) (lt_mul h.bot k.bot (Nat.le_refl _))
/-- two fractions are handed in, told by their worth -/
def sp_binQ (K : PySem.W.Frag) (F : Rat → Rat → Rat) (G : Rat → Prop) : Sp := fun vs H Q _ => ∃ (x y : V) (a b : Rat), vs = [x, y] ∧ PrAt K H x (frq a) ∧ PrAt K H y (frq b) ∧ Bq 5000 4490 a ∧ Bq 5000 4490 b ∧ G b ∧
  ∀ H' v, Same H H' → PrAt K H' v (frq (F a b)) → Q v H'
theorem ok__law_mulQ (T : Env K mg) : FnOk P w K mg base CX0 2 T.a__law_mul T.fd__law_mul ["_law_one", "_law_other"] (sp_binQ K (· * ·) fun _ => True) := by
  refine T.F__law_mul.ok sc__law_mul (fun vs H Q E h => ?_) (fun cdv A outer s H vs Q E hr h => ?_)
  · obtain ⟨x, y, p, q, rfl, _⟩ := h
    rfl
  · obtain ⟨x, y, p, q, rfl, hx, hy, fp, fq, _, k⟩ := h
    refine ⟨_, (pss_one (ps_ret (pe_call (ok__law_low T) (hr.mono (by decide)) (by rfl) T.g__law_low T.F__law_low.kp T.b__law_low .nil pass0 (pa_cons (pe_op op_mulU (pe_ix ix_tup (pv 0) pe_int (fun _ _ => rfl)) (pe_ix ix_tup (pv 1) pe_int (fun _ _ => rfl))) (pa_cons (pe_op op_mulU (pe_ix ix_tup (pv 0) pe_int (fun _ _ => rfl)) (pe_ix ix_tup (pv 1) pe_int (fun _ _ => rfl))) pa_nil))))), ?_⟩
    obtain ⟨a, rfl, ha⟩ := hx.sq
    obtain ⟨b, rfl, hb⟩ := hy.sq
    refine ⟨_, rfl, a, _, _, _, rfl, rfl, ha, atI_nat (j := 0) rfl, _, rfl, b, _, _, _, rfl, rfl, hb, atI_nat (j := 0) rfl, _, _, rfl, rfl, mulW fp.top fq.top (by decide) (by decide) (by decide), ?_⟩
    refine ⟨_, rfl, a, _, _, _, rfl, rfl, ha, atI_nat (j := 1) rfl, _, rfl, b, _, _, _, rfl, rfl, hb, atI_nat (j := 1) rfl, _, _, rfl, rfl, mulW fp.bot fq.bot (by decide) (by decide) (by decide), ?_⟩
    rw [← mulV_q] at k
    exact ⟨_, _, rfl, pos_mul p q, log_small (by decide) (lt_mul (n := 8999) fp.bot fq.bot (by decide)) (by decide), bin_out k⟩
theorem ok__law_divQ (T : Env K mg) : FnOk P w K mg base CX0 2 T.a__law_div T.fd__law_div ["_law_one", "_law_other"] (sp_binQ K (· / ·) fun b => b ≠ 0 ∧ Bq 4490 4490 b) := by
  refine T.F__law_div.ok sc__law_div (fun vs H Q E h => ?_) (fun cdv A outer s H vs Q E hr h => ?_)
  · obtain ⟨x, y, p, q, rfl, _⟩ := h
    rfl
  · obtain ⟨x, y, p, q, rfl, hx, hy, fp, _, ⟨q0, fq⟩, k⟩ := h
    refine ⟨_, (pss_one (ps_ret (pe_call (ok__law_low T) (hr.mono (by decide)) (by rfl) T.g__law_low T.F__law_low.kp T.b__law_low .nil pass0 (pa_cons (pe_op op_mulU (pe_ix ix_tup (pv 0) pe_int (fun _ _ => rfl)) (pe_ix ix_tup (pv 1) pe_int (fun _ _ => rfl))) (pa_cons (pe_op op_mulU (pe_ix ix_tup (pv 0) pe_int (fun _ _ => rfl)) (pe_ix ix_tup (pv 1) pe_int (fun _ _ => rfl))) pa_nil))))), ?_⟩
    obtain ⟨a, rfl, ha⟩ := hx.sq
    obtain ⟨b, rfl, hb⟩ := hy.sq
    refine ⟨_, rfl, a, _, _, _, rfl, rfl, ha, atI_nat (j := 0) rfl, _, rfl, b, _, _, _, rfl, rfl, hb, atI_nat (j := 1) rfl, _, _, rfl, rfl, mulW fp.top fq.bot (by decide) (by decide) (by decide), ?_⟩
    refine ⟨_, rfl, a, _, _, _, rfl, rfl, ha, atI_nat (j := 1) rfl, _, rfl, b, _, _, _, rfl, rfl, hb, atI_nat (j := 0) rfl, _, _, rfl, rfl, mulW fp.bot fq.top (by decide) (by decide) (by decide), ?_⟩
    rw [← divV_q p q0] at k
    exact ⟨_, _, rfl, pos_div p q0, log_small (by decide) (lt_mul (n := 8999) fp.bot fq.top (by decide)) (by decide), bin_out k⟩
theorem ok__law_addQ (T : Env K mg) : FnOk P w K mg base CX0 2 T.a__law_add T.fd__law_add ["_law_one", "_law_other"] (sp_binQ K (· + ·) fun _ => True) := by
  refine T.F__law_add.ok sc__law_add (fun vs H Q E h => ?_) (fun cdv A outer s H vs Q E hr h => ?_)
  · obtain ⟨x, y, p, q, rfl, _⟩ := h
    rfl
  · obtain ⟨x, y, p, q, rfl, hx, hy, fp, fq, _, k⟩ := h
    refine ⟨_, (pss_one (ps_ret (pe_call (ok__law_low T) (hr.mono (by decide)) (by rfl) T.g__law_low T.F__law_low.kp T.b__law_low .nil pass0 (pa_cons (pe_op op_add (pe_op op_mulU (pe_ix ix_tup (pv 0) pe_int (fun _ _ => rfl)) (pe_ix ix_tup (pv 1) pe_int (fun _ _ => rfl))) (pe_op op_mulU (pe_ix ix_tup (pv 1) pe_int (fun _ _ => rfl)) (pe_ix ix_tup (pv 0) pe_int (fun _ _ => rfl)))) (pa_cons (pe_op op_mulU (pe_ix ix_tup (pv 0) pe_int (fun _ _ => rfl)) (pe_ix ix_tup (pv 1) pe_int (fun _ _ => rfl))) pa_nil))))), ?_⟩
    obtain ⟨a, rfl, ha⟩ := hx.sq
    obtain ⟨b, rfl, hb⟩ := hy.sq
    refine ⟨_, rfl, a, _, _, _, rfl, rfl, ha, atI_nat (j := 0) rfl, _, rfl, b, _, _, _, rfl, rfl, hb, atI_nat (j := 1) rfl, _, _, rfl, rfl, mulW fp.top fq.bot (by decide) (by decide) (by decide), ?_⟩
    refine ⟨_, rfl, b, _, _, _, rfl, rfl, hb, atI_nat (j := 0) rfl, _, rfl, a, _, _, _, rfl, rfl, ha, atI_nat (j := 1) rfl, _, _, rfl, rfl, mulW fq.top fp.bot (by decide) (by decide) (by decide), _, _, rfl, rfl, ?_⟩
    refine ⟨_, rfl, a, _, _, _, rfl, rfl, ha, atI_nat (j := 1) rfl, _, rfl, b, _, _, _, rfl, rfl, hb, atI_nat (j := 1) rfl, _, _, rfl, rfl, mulW fp.bot fq.bot (by decide) (by decide) (by decide), ?_⟩
    rw [← addV_q] at k
    exact ⟨_, _, rfl, pos_mul p q, log_small (by decide) (lt_mul (n := 8999) fp.bot fq.bot (by decide)) (by decide), bin_out k⟩

/-! ### the product -/
theorem walkL {K : PySem.W.Frag} {a : Addr} {xs : List V} {H0 : Hp} {Qd : Hp → Prop} {B : (Hp → Prop) → V → Hp → Prop} (Pv : Nat → Hp → Prop) (h0 : Pv 0 H0) (hl : ∀ i H, i ≤ xs.length → Pv i H → SqL K H a xs)
    (hs : ∀ i x H, xs[i]? = some x → Pv i H → B (Pv (i + 1)) x H) (hd : ∀ H, Pv xs.length H → Qd H) :
    ∃ W : Nat → Nat → Hp → Prop, (∃ m, W 0 m H0) ∧ ∀ i m H, W i m H →
      ((Itl K a).stop i H ∧ Qd H) ∨ ((Itl K a).go i H ∧ ∃ Nx : Hp → Prop, (∀ H', Nx H' → ∃ m', m' < m ∧ W (i + 1) m' H') ∧ ∀ x H', (Itl K a).yld i H x H' → B Nx x H') := by
  refine ⟨fun i m H => m = xs.length - i ∧ i ≤ xs.length ∧ Pv i H, ⟨xs.length, by simp, Nat.zero_le _, h0⟩, ?_⟩
  rintro i m H ⟨rfl, hi, p⟩
  have q := hl i H hi p
  by_cases hlt : i < xs.length
  · refine .inr ⟨⟨xs, xs[i], q, by simp [hlt]⟩, Pv (i + 1), fun H' p' => ⟨xs.length - (i + 1), by omega, rfl, hlt, p'⟩, fun x H' y => ?_⟩
    obtain ⟨e, y⟩ := y
    subst e
    exact hs i x _ (y xs q) p
  · have e : i = xs.length := by omega
    subst e
    exact .inl ⟨⟨xs, q, Nat.le_refl _⟩, hd H p⟩
theorem pi_listK {X : Cx} {tg l : Expr} {tl : TE} (hK : X.K = K) (hl : PE X l tl) : PI X tg l (iList K tl) := by
  subst hK
  exact pi_list hl
theorem pg_tupK {X : Cx} {pos : Pos} {es : List Expr} {k : Nat} {t : TGs} {n : Nat} (hK : X.K = K) (hc : X.calm = true) (h : PGs X es t)
    (hn : (assignEach es X.env).length = n := by rfl) (hst : (assignEach es X.env).findIdx? (·.1) = none := by rfl) : PG X (.Tuple es k pos) (gTup K n t) := by
  subst hK
  exact pg_tup hc h hn hst
theorem cat_small {a b : Nat} (h : a + b ≤ 10000) : a + b ≤ sizeLine := by
  have h4 : (20000 : Nat) < sizeLine := by decide
  omega
/-- a sum that stands at q: its terms rows, its counts small -/
structure SumAt (H : Hp) (q : Addr) (l : List (NestedKey × Int)) : Prop where
  ex : ∃ xs, H q = some (.lst xs) ∧ PrAll H l xs
  ok : SumOk l
  few : l.length ≤ 10
  bd : ∀ z ∈ l, z.2.natAbs ≤ 40
  sh : ∀ z ∈ l, (unrow z.1).length ≤ 5
theorem SumAt.mono {H H' : Hp} {q : Addr} {l : List (NestedKey × Int)} (s : Same H H') (h : SumAt H q l) : SumAt H' q l := by
  obtain ⟨xs, h1, h2⟩ := h.ex
  exact ⟨⟨xs, s _ _ h1, h2.mono s⟩, h.ok, h.few, h.bd, h.sh⟩
def sp_times : Sp := fun vs H Q _ => ∃ (a b : Addr) (l m : List (NestedKey × Int)), vs = [.ref a, .ref b] ∧ SumAt H a l ∧ SumAt H b m ∧
  ∀ H' q zs, Same H H' → H q = none → H' q = some (.lst zs) → PrAll H' (settle (prod l m)) zs → Q (.ref q) H'
theorem rmul_row {a b : NestedKey} (ha : IsRow a) (hb : IsRow b) (la : (unrow a).length ≤ 5) (lb : (unrow b).length ≤ 5) : IsRow (rmul a b) := by
  obtain ⟨l, rfl, hl⟩ := ha
  obtain ⟨m, rfl, hm⟩ := hb
  rw [unrow_row] at la lb
  refine ⟨settle (l ++ m), by unfold rmul; rw [unrow_row, unrow_row], settle_row (by rw [List.length_append]; omega) (row_marks hl hm)⟩
theorem prod_rows {H H' : Hp} {a b : Addr} {l m : List (NestedKey × Int)} (hl : SumAt H a l) (hm : SumAt H' b m) : ∀ z ∈ prod l m, IsRow z.1 := fun z hz => by
  obtain ⟨p, hp, hz⟩ := List.mem_flatMap.mp hz
  obtain ⟨q, hq, rfl⟩ := List.mem_map.mp hz
  exact rmul_row (hl.ok.rk p hp) (hm.ok.rk q hq) (hl.sh p hp) (hm.sh q hq)
theorem prod_len (l m : List (NestedKey × Int)) : (prod l m).length = l.length * m.length := by
  induction l with
  | nil => rw [List.length_nil, Nat.zero_mul]; rfl
  | cons p l ih =>
    have e : prod (p :: l) m = prodRow p m ++ prod l m := List.flatMap_cons ..
    rw [e, List.length_append, ih, List.length_cons, Nat.succ_mul]
    unfold prodRow
    rw [List.length_map]
    omega
theorem prod_few {H H' : Hp} {a b : Addr} {l m : List (NestedKey × Int)} (hl : SumAt H a l) (hm : SumAt H' b m) : (prod l m).length ≤ 100 := by
  rw [prod_len]
  exact Nat.mul_le_mul hl.few hm.few
theorem prod_keys {H H' : Hp} {a b : Addr} {l m : List (NestedKey × Int)} (hl : SumAt H a l) (hm : SumAt H' b m) : KeysOk ((prod l m).map (·.1)) := keysRow fun k hk => by
  obtain ⟨z, hz, rfl⟩ := List.mem_map.mp hk
  exact prod_rows hl hm z hz
theorem prod_more {l : List (NestedKey × Int)} {i : Nat} {p : NestedKey × Int} (h : l[i]? = some p) (m : List (NestedKey × Int)) : prod (l.take (i + 1)) m = prod (l.take i) m ++ prodRow p m := by
  rw [take_more' h]
  unfold prod
  rw [List.flatMap_append]
  congr 1
  exact List.append_nil _
theorem prodRow_more {m : List (NestedKey × Int)} {j : Nat} {q : NestedKey × Int} (h : m[j]? = some q) (p : NestedKey × Int) : prodRow p (m.take (j + 1)) = prodRow p (m.take j) ++ [(rmul p.1 q.1, p.2 * q.2)] := by
  rw [take_more' h]
  unfold prodRow
  rw [List.map_append]
  rfl
/-- so far few -/
theorem part_few {l m : List (NestedKey × Int)} (p : NestedKey × Int) (i j : Nat) (hl : l.length ≤ 10) (hm : m.length ≤ 10) : (prod (l.take i) m ++ prodRow p (m.take j)).length ≤ 200 := by
  rw [List.length_append, prod_len]
  unfold prodRow
  rw [List.length_map, List.length_take, List.length_take]
  have : min i l.length * m.length ≤ 10 * 10 := Nat.mul_le_mul (by omega) hm
  omega
/-! ### the law's own product, of rows that may hold a power nought -/
structure RowQ (l : List (NestedKey × Int)) : Prop where
  rk : ∀ p ∈ l, IsMark p.1
structure SumQ (H : Hp) (q : Addr) (l : List (NestedKey × Int)) : Prop where
  ex : ∃ xs, H q = some (.lst xs) ∧ PrAll H l xs
  rk : ∀ z ∈ l, ∃ r, z.1 = rowK r ∧ RowQ r
  few : l.length ≤ 10
  bd : ∀ z ∈ l, z.2.natAbs ≤ 40
  sh : ∀ z ∈ l, (unrow z.1).length ≤ 5
def sp_timesQ : Sp := fun vs H Q _ => ∃ (a b : Addr) (l m : List (NestedKey × Int)), vs = [.ref a, .ref b] ∧ SumQ H a l ∧ SumQ H b m ∧
  ∀ H' q zs, Same H H' → H q = none → H' q = some (.lst zs) → PrAll H' (settle (prod l m)) zs → Q (.ref q) H'
theorem row_marksQ {l m : List (NestedKey × Int)} (hl : RowQ l) (hm : RowQ m) : ∀ z ∈ l ++ m, IsMark z.1 := fun z hz => by
  rcases List.mem_append.mp hz with hz | hz
  · exact hl.rk z hz
  · exact hm.rk z hz
theorem row_keysQ {l m : List (NestedKey × Int)} (hl : RowQ l) (hm : RowQ m) : KeysOk ((l ++ m).map (·.1)) := keysMark fun k hk => by
  obtain ⟨z, hz, rfl⟩ := List.mem_map.mp hk
  exact row_marksQ hl hm z hz
theorem prod_fewQ {H H' : Hp} {a b : Addr} {l m : List (NestedKey × Int)} (hl : SumQ H a l) (hm : SumQ H' b m) : (prod l m).length ≤ 100 := by
  rw [prod_len]
  exact Nat.mul_le_mul hl.few hm.few
theorem prod_rowsQ {H H' : Hp} {a b : Addr} {l m : List (NestedKey × Int)} (hl : SumQ H a l) (hm : SumQ H' b m) : ∀ z ∈ prod l m, IsRow z.1 := fun z hz => by
  obtain ⟨p, hp, hz⟩ := List.mem_flatMap.mp hz
  obtain ⟨q, hq, rfl⟩ := List.mem_map.mp hz
  obtain ⟨r, er, hr⟩ := hl.rk p hp
  obtain ⟨r', er', hr'⟩ := hm.rk q hq
  have l1 := hl.sh p hp
  have l2 := hm.sh q hq
  show IsRow (rmul p.1 q.1)
  rw [er, unrow_row] at l1
  rw [er', unrow_row] at l2
  rw [er, er']
  exact ⟨settle (r ++ r'), by unfold rmul; rw [unrow_row, unrow_row], settle_row (by rw [List.length_append]; omega) (row_marksQ hr hr')⟩
theorem prod_keysQ {H H' : Hp} {a b : Addr} {l m : List (NestedKey × Int)} (hl : SumQ H a l) (hm : SumQ H' b m) : KeysOk ((prod l m).map (·.1)) := keysRow fun k hk => by
  obtain ⟨z, hz, rfl⟩ := List.mem_map.mp hk
  exact prod_rowsQ hl hm z hz
theorem ok__law_times (T : Env K mg) : FnOk P w K mg base CX0 2 T.a__law_times T.fd__law_times ["_law_one", "_law_other"] sp_timesQ := by
  refine T.F__law_times.ok sc__law_times (fun vs H Q E h => ?_) (fun cdv A outer s H vs Q E hr h => ?_)
  · obtain ⟨a, b, l, m, rfl, _⟩ := h
    rfl
  · obtain ⟨a, b, l, m, rfl, hA, hB, q⟩ := h
    obtain ⟨xs, ha, hP⟩ := hA.ex
    obtain ⟨ys, hb, hPb⟩ := hB.ex
    have hf1 := hA.few
    have hf2 := hB.few
    have h4 : (20000 : Nat) < sizeLine := by decide
    refine ⟨_, (pss_cons (ps_set (i := 2) sc__law_times.nd rfl (.inl rfl) (pe_lst pa_nil))
 (pss_cons (ps_for PassesOwn.never rfl (pi_list (pv 0)) (pg_tup rfl (pgs_cons (pg_name (i := 3) sc__law_times.nd rfl (.inl rfl)) (pgs_cons (pg_name (i := 4) sc__law_times.nd rfl (.inl rfl)) pgs_nil)))
 (pss_one (ps_for PassesOwn.never rfl (pi_list (pv 1)) (pg_tup rfl (pgs_cons (pg_name (i := 5) sc__law_times.nd rfl (.inl rfl)) (pgs_cons (pg_name (i := 6) sc__law_times.nd rfl (.inl rfl)) pgs_nil)))
 (pss_one (ps_expr (pe_bm PySem.F.plainAttrs_list PySem.F.slot_list_append PySem.F.type_list_append mt_append (pv 2) (pa_cons (pe_tup (pa_cons (pe_call (ok__law_row_times T) (hr.mono (by decide)) (by rfl) T.g__law_row_times T.F__law_row_times.kp T.b__law_row_times .nil pass0 (pa_cons (pv 3) (pa_cons (pv 5) pa_nil))) (pa_cons (pe_op op_mulU (pv 4) (pv 6)) pa_nil))) pa_nil)))))))
 (pss_one (ps_ret (pe_call (ok__law_settled T) (hr.mono (by decide)) (by rfl) T.g__law_settled T.F__law_settled.kp T.b__law_settled .nil pass0 (pa_cons (pv 2) pa_nil)))))), ?_⟩
    refine ⟨Nat.zero_le _, fun D hD => ?_⟩
    have sD := same_new (o := .lst []) hD
    refine ⟨_, rfl, a, rfl, ⟨_, .inl (.inl (sD _ _ ha))⟩, for_list (K := K) (a := a) (xs := xs) (fun i σ H' => ∃ (zs : List V) (y3 y4 y5 y6 : Option V), σ = [some (.ref a), some (.ref b), some (.ref D), y3, y4, y5, y6] ∧ H' D = some (.lst zs) ∧ PrAll H' (prod (l.take i) m) zs ∧ Same H H') ?_ ?_ ?_ ?_⟩
    · exact ⟨[], _, _, _, _, rfl, upd_same, .nil, sD⟩
    · rintro i σ H' _ ⟨zs, _, _, _, _, _, _, _, s6⟩
      exact .inl (.inl (s6 _ _ ha))
    · rintro i x σ H' hi ⟨zs, y3, y4, y5, y6, rfl, hz, hPz, s6⟩
      obtain ⟨k, n, t, b1, hl', rfl, ht, hb1⟩ := hP.at hi
      have hmem := List.mem_of_getElem? hl'
      obtain ⟨r, hk, hR⟩ := hA.rk _ hmem
      have hk : k = rowK r := hk
      subst hk
      have hbd : n.natAbs ≤ 40 := hA.bd _ hmem
      have hsh : (unrow (rowK r)).length ≤ 5 := hA.sh _ hmem
      rw [unrow_row] at hsh
      obtain ⟨us, hbu, hPu⟩ := nk_row hR.rk hb1
      refine ⟨t, _, rfl, .inl (.inl (s6 _ _ ht)), rfl, _, _, rfl, _, _, rfl, rfl, ?_⟩
      refine ⟨_, rfl, b, rfl, ⟨_, .inl (.inl (s6 _ _ hb))⟩, for_list (K := K) (a := b) (xs := ys) (fun j σ H2 => ∃ (zs : List V) (z5 z6 : Option V), σ = [some (.ref a), some (.ref b), some (.ref D), some (.ref b1), some (.int n), z5, z6] ∧ H2 D = some (.lst zs) ∧ PrAll H2 (prod (l.take i) m ++ prodRow (rowK r, n) (m.take j)) zs ∧ Same H H2) ?_ ?_ ?_ ?_⟩
      · refine ⟨zs, _, _, rfl, hz, ?_, s6⟩
        rw [List.take_zero]
        show PrAll H' (_ ++ []) zs
        rw [List.append_nil]
        exact hPz
      · rintro j σ H2 _ ⟨zs, _, _, _, _, _, s7⟩
        exact .inl (.inl (s7 _ _ hb))
      · rintro j x σ H2 hj ⟨zs, z5, z6, rfl, hz, hPz, s7⟩
        obtain ⟨k', n', t', b2, hl2, rfl, ht2, hb2⟩ := hPb.at hj
        have hmem2 := List.mem_of_getElem? hl2
        obtain ⟨r', hk', hR'⟩ := hB.rk _ hmem2
        have hk' : k' = rowK r' := hk'
        subst hk'
        have hbd2 : n'.natAbs ≤ 40 := hB.bd _ hmem2
        have hsh2 : (unrow (rowK r')).length ≤ 5 := hB.sh _ hmem2
        rw [unrow_row] at hsh2
        obtain ⟨vs, hbv, hPv⟩ := nk_row hR'.rk hb2
        refine ⟨t', _, rfl, .inl (.inl (s7 _ _ ht2)), rfl, _, _, rfl, _, _, rfl, rfl, ?_⟩
        refine ⟨_, rfl, .inl ⟨rfl, _, .inl (.inl hz)⟩, _, rfl, _, rfl, b1, b2, us, vs, r, r', rfl, s7 _ _ hbu, s7 _ _ hbv, hPu.mono s7, hPv.mono s7, by omega, row_keysQ hR hR', fun H3 c ws s8 hc hPc => ?_⟩
        refine ⟨_, rfl, _, rfl, _, _, rfl, rfl, mulL (by omega) (by omega), (by show 2 ≤ sizeLine; decide), fun t2 ht2' => ?_⟩
        have s9 := same_new (o := .tup [.ref c, .int (n * n')]) ht2'
        have e2 : (upd H3 t2 (.tup [.ref c, .int (n * n')])) t2 = some (.tup [.ref c, .int (n * n')]) := upd_same
        generalize upd H3 t2 (.tup [.ref c, .int (n * n')]) = H4 at *
        have hD4 := s9 _ _ (s8 _ _ hz)
        have s10 := (s7.trans s8).trans s9
        have hzl := hPz.length
        have hfew := part_few (l := l) (m := m) (rowK r, n) i j hf1 hf2
        refine ⟨D, zs, _, rfl, rfl, hD4, by omega, ?_⟩
        refine ⟨zs ++ [.ref t2], _, _, rfl, upd_same, ?_, same_put s10 hD⟩
        have tk : TupK H4 (upd H4 D (.lst (zs ++ [V.ref t2]))) := fun d zs' e => by rw [upd_ne (ne_of e hD4 (fun z => nomatch z))]; exact e
        rw [prodRow_more hl2, ← List.append_assoc]
        have hkey : Nk H4 (rmul (rowK r) (rowK r')) (.ref c) := by
          unfold rmul
          rw [unrow_row, unrow_row]
          exact (hPc.mono s9).key (s9 _ _ hc)
        exact prAllT tk ((hPz.mono (s8.trans s9)).app (.cons e2 hkey .nil))
      · rintro σ H2 ⟨zs, z5, z6, rfl, hz, hPz, s7⟩
        rw [hPb.length, List.take_length] at hPz
        refine ⟨zs, _, _, _, _, rfl, hz, ?_, s7⟩
        rw [prod_more hl']
        exact hPz
    · rintro σ H' ⟨zs, y3, y4, y5, y6, rfl, hz, hPz, s6⟩
      rw [hP.length, List.take_length] at hPz
      have := prod_fewQ hA hB
      refine ⟨_, rfl, D, zs, prod l m, rfl, .inl (.inl hz), hPz, by omega, prod_keysQ hA hB, fun H2 q2 ws s7 nq e2 hP2 => ?_⟩
      exact q H2 q2 ws (s6.trans s7) (s6.free nq) e2 hP2

/-! ### powers: how many in all; marks that a dict may hold -/
def markP (q : Int × Int) : NestedKey := markK q.1 q.2
def SmM (k : NestedKey) : Prop := ∃ q, k = markP q ∧ smallP q
structure SmR (r : List (NestedKey × Int)) : Prop where
  ms : ∀ y ∈ r, SmM y.1
  tt : tot r ≤ 40
theorem sum_pt {k : NestedKey} {x : Nat} : ∀ {ks : List NestedKey}, ks.Nodup → (ks.map fun c => if k = c then x else 0).sum ≤ x
  | [], _ => Nat.zero_le _
  | c :: ks, h => by
    rw [List.map_cons, List.sum_cons]
    obtain ⟨h1, h2⟩ := List.nodup_cons.mp h
    have ih := sum_pt (k := k) (x := x) h2
    by_cases e : k = c
    · subst e
      rw [if_pos rfl]
      have z : (ks.map fun c => if k = c then x else 0).sum = 0 := by
        have : ks.map (fun c => if k = c then x else 0) = ks.map fun _ => 0 := List.map_congr_left fun c hc => if_neg fun e => h1 (by rw [e]; exact hc)
        rw [this]
        clear ih this h h1 h2
        induction ks with
        | nil => rfl
        | cons _ _ ih => rw [List.map_cons, List.sum_cons, ih]
      omega
    · rw [if_neg e]
      omega
theorem sum_cnt {ks : List NestedKey} (h : ks.Nodup) : ∀ l : List (NestedKey × Int), (ks.map fun k => (cnt l k).natAbs).sum ≤ tot l
  | [] => by
    have : ks.map (fun k => (cnt [] k).natAbs) = ks.map fun _ => 0 := List.map_congr_left fun c hc => rfl
    rw [this]
    clear this h
    induction ks with
    | nil => exact Nat.zero_le _
    | cons _ _ ih => rw [List.map_cons, List.sum_cons]; omega
  | p :: l => by
    have ih := sum_cnt h l
    have h1 := sum_pt (k := p.1) (x := p.2.natAbs) h
    have h2 : (ks.map fun k => (cnt (p :: l) k).natAbs).sum ≤ (ks.map fun c => if p.1 = c then p.2.natAbs else 0).sum + (ks.map fun k => (cnt l k).natAbs).sum := by
      clear ih h1 h
      induction ks with
      | nil => exact Nat.zero_le _
      | cons c ks ih =>
        rw [List.map_cons, List.sum_cons, List.map_cons, List.sum_cons, List.map_cons, List.sum_cons, cnt_cons]
        by_cases e : p.1 = c
        · rw [if_pos e, if_pos e]; omega
        · rw [if_neg e, if_neg e]; omega
    have h3 : tot (p :: l) = p.2.natAbs + tot l := by unfold tot; rw [List.map_cons, List.sum_cons]
    omega
theorem filt_sub {α β : Type} {f : α → Option β} {g : β → α} (h : ∀ a b, f a = some b → g b = a) : ∀ L : List α, ((L.filterMap f).map g).Sublist L
  | [] => List.Sublist.refl _
  | a :: L => by
    rw [List.filterMap_cons]
    cases e : f a with
    | none => exact (filt_sub h L).cons _
    | some b =>
      rw [List.map_cons, h a b e]
      exact (filt_sub h L).cons_cons _
theorem settle_nodup (l : List (NestedKey × Int)) : ((settle l).map (·.1)).Nodup := by
  have hs : ((settle l).map (·.1)).Sublist (sortedKeys (totals l)) := filt_sub (f := pick (totals l)) (g := (·.1)) (fun k p h => (pick_some h).1) _
  exact ((List.mergeSort_perm _ _).nodup_iff.mpr (totals_nodup l)).sublist hs
theorem settle_tot (l : List (NestedKey × Int)) : tot (settle l) ≤ tot l := by
  have h := sum_cnt (settle_nodup l) l
  have e : ((settle l).map (·.1)).map (fun k => (cnt l k).natAbs) = (settle l).map fun p => p.2.natAbs := by
    rw [List.map_map]
    exact List.map_congr_left fun p hp => by show (cnt l p.1).natAbs = _; rw [← settle_cnt hp]
  rw [e] at h
  exact h
theorem tot_app (l m : List (NestedKey × Int)) : tot (l ++ m) = tot l + tot m := by unfold tot; rw [List.map_append, List.sum_append]
theorem settle_mk {l : List (NestedKey × Int)} (h : ∀ y ∈ l, SmM y.1) : ∀ y ∈ settle l, SmM y.1 := fun y hy => by
  obtain ⟨u, hu, e⟩ := List.mem_map.mp (settle_keys hy).1
  rw [← e]
  exact h u hu
theorem small_fin : ∀ (x : Fin 4) (y : Fin 3) (j k : Fin 2), (((x : Nat) : Int) + 9 * ((j : Nat) : Int), ((x : Nat) : Int) + 9 * ((j : Nat) : Int) + 1 + ((y : Nat) : Int) + 20 * ((k : Nat) : Int)) ∈ smallPs := by decide +kernel
theorem small_mark {x y j k : Int} (x0 : 0 ≤ x) (x1 : x < 4) (y0 : 0 ≤ y) (y1 : y < 3) (j0 : 0 ≤ j) (j1 : j < 2) (k0 : 0 ≤ k) (k1 : k < 2) : smallP (x + 9 * j, x + 9 * j + 1 + y + 20 * k) := by
  have h := small_fin ⟨x.toNat, by omega⟩ ⟨y.toNat, by omega⟩ ⟨j.toNat, by omega⟩ ⟨k.toNat, by omega⟩
  simp only [Int.toNat_of_nonneg x0, Int.toNat_of_nonneg y0, Int.toNat_of_nonneg j0, Int.toNat_of_nonneg k0] at h
  exact h
theorem ite01 {p : Prop} [Decidable p] : 0 ≤ (if p then (1 : Int) else 0) ∧ (if p then (1 : Int) else 0) < 2 := by split <;> decide
/-! ### the drawn sum -/
def sp_draw (K : PySem.W.Frag) : Sp := fun vs H Q _ => ∃ (r : Addr) (rs : List Int) (tn mk : Nat), vs = [.ref r, .int tn, .int mk] ∧ SqL K H r (rs.map V.int) ∧ tn ≤ 10 ∧ mk ≤ 3 ∧ tn * mk ≤ rs.length ∧ tn ≤ rs.length ∧
  ∀ H' q xs l, Same H H' → H q = none → H' q = some (.lst xs) → PrAll H' l xs → SumOk l → l.length ≤ 10 → (∀ z ∈ l, z.2.natAbs ≤ 40) → (∀ z ∈ l, (unrow z.1).length ≤ 5) → l.length ≤ tn → (∀ z ∈ l, SmR (unrow z.1)) → Q (.ref q) H'
theorem draw_at {rs : List Int} {k mk i tn : Nat} (hk : k < tn) (hi : i < mk) (h : tn * mk ≤ rs.length) : ∃ v : Int, atI (rs.map V.int) ((0 + (k : Int)) * (mk : Int) + (0 + (i : Int))) = some (.int v) := by
  have h1 : (k + 1) * mk ≤ tn * mk := Nat.mul_le_mul_right mk hk
  rw [Nat.succ_mul] at h1
  have h2 : k * mk + i < rs.length := by omega
  refine ⟨rs[k * mk + i], ?_⟩
  rw [show (0 + (k : Int)) * (mk : Int) + (0 + (i : Int)) = ((k * mk + i : Nat) : Int) by rw [Int.zero_add, Int.zero_add, Int.natCast_add, Int.natCast_mul]]
  refine atI_nat ?_
  rw [List.getElem?_map, List.getElem?_eq_getElem h2]
  rfl
theorem row_at {rs : List Int} {k : Nat} (hk : k < rs.length) : ∃ v : Int, atI (rs.map V.int) (0 + (k : Int)) = some (.int v) := by
  refine ⟨rs[k], ?_⟩
  rw [Int.zero_add]
  refine atI_nat ?_
  rw [List.getElem?_map, List.getElem?_eq_getElem hk]
  rfl
theorem ok__law_draw_sum (T : Env K mg) : FnOk P w K mg base CX0 2 T.a__law_draw_sum T.fd__law_draw_sum ["_law_row", "_law_terms", "_law_marks"] (sp_draw K) := by
  refine T.F__law_draw_sum.ok sc__law_draw_sum (fun vs H Q E h => ?_) (fun cdv A outer s H vs Q E hr h => ?_)
  · obtain ⟨r, rs, tn, mk, rfl, _⟩ := h
    rfl
  · obtain ⟨r, rs, tn, mk, rfl, hR, ht10, hm5, hlen, hlen2, q⟩ := h
    refine ⟨_, (pss_cons (ps_set (i := 3) sc__law_draw_sum.nd rfl (.inl rfl) (pe_lst pa_nil))
 (pss_cons (ps_for PassesOwn.never rfl (pi_range1 (by rfl) T.m_range (pa_cons (pv 1) pa_nil)) (pg_name (i := 4) sc__law_draw_sum.nd rfl (.inl rfl))
 (pss_cons (ps_set (i := 5) sc__law_draw_sum.nd rfl (.inl rfl) (pe_tup pa_nil))
 (pss_cons (ps_for PassesOwn.never rfl (pi_range1 (by rfl) T.m_range (pa_cons (pv 2) pa_nil)) (pg_name (i := 6) sc__law_draw_sum.nd rfl (.inl rfl))
 (pss_cons (ps_set (i := 7) sc__law_draw_sum.nd rfl (.inl rfl) (pe_ix ix_list (pv 0) (pe_op op_add (pe_op op_mulU (pv 4) (pv 2)) (pv 6)) (fun _ _ => rfl)))
 (pss_cons (ps_set (i := 8) sc__law_draw_sum.nd rfl (.inl rfl) (pe_op op_add (pe_op op_mod (pv 7) pe_int) (pe_op op_mulU pe_int (pe_callTy call_int1 (by rfl) T.m_int (by decide +kernel) (pa_cons (pe_cmpR op_eq (pe_op op_mod (pe_op op_fdiv (pv 7) pe_int) pe_int) pe_int (nomark _)) pa_nil)))))
 (pss_cons (ps_set (i := 9) sc__law_draw_sum.nd rfl (.inl rfl) (pe_op op_add (pe_op op_add (pe_op op_add (pv 8) pe_int) (pe_op op_mod (pe_op op_fdiv (pv 7) pe_int) pe_int)) (pe_op op_mulU pe_int (pe_callTy call_int1 (by rfl) T.m_int (by decide +kernel) (pa_cons (pe_cmpR op_eq (pe_op op_mod (pe_op op_fdiv (pv 7) pe_int) pe_int) pe_int (nomark _)) pa_nil)))))
 (pss_one (ps_set (i := 5) sc__law_draw_sum.nd rfl (.inl rfl) (pe_call (ok__law_row_times T) (hr.mono (by decide)) (by rfl) T.g__law_row_times T.F__law_row_times.kp T.b__law_row_times .nil pass0 (pa_cons (pv 5) (pa_cons (pe_tup (pa_cons (pe_tup (pa_cons (pe_tup (pa_cons (pv 8) (pa_cons (pv 9) pa_nil))) (pa_cons (pe_op op_sub (pe_op op_mod (pe_op op_fdiv (pv 7) pe_int) pe_int) pe_int) pa_nil))) pa_nil)) pa_nil)))))))))
 (pss_one (ps_expr (pe_bm PySem.F.plainAttrs_list PySem.F.slot_list_append PySem.F.type_list_append mt_append (pv 3) (pa_cons (pe_tup (pa_cons (pv 5) (pa_cons (pe_op op_sub (pe_op op_mod (pe_op op_fdiv (pe_ix ix_list (pv 0) (pv 4) (fun _ _ => rfl)) pe_int) pe_int) pe_int) pa_nil))) pa_nil)))))))
 (pss_one (ps_ret (pe_call (ok__law_settled T) (hr.mono (by decide)) (by rfl) T.g__law_settled T.F__law_settled.kp T.b__law_settled .nil pass0 (pa_cons (pv 3) pa_nil)))))), ?_⟩
    refine ⟨Nat.zero_le _, fun p hp => ?_⟩
    refine ⟨_, rfl, _, rfl, by omega, by omega, for_range (lo := 0) (n := tn) (fun k σ H' => ∃ (ml : List (NestedKey × Int)) (ys : List V) (y4 y5 y6 y7 y8 y9 : Option V), σ = [some (.ref r), some (.int tn), some (.int mk), some (.ref p), y4, y5, y6, y7, y8, y9] ∧
        Same H H' ∧ H' p = some (.lst ys) ∧ PrAll H' ml ys ∧ (∀ z ∈ ml, IsRow z.1) ∧ ml.length = k ∧ (∀ z ∈ ml, z.2.natAbs ≤ 4) ∧ (∀ z ∈ ml, (unrow z.1).length ≤ 5) ∧ ∀ z ∈ ml, SmR (unrow z.1)) ⟨[], [], _, _, _, _, _, _, rfl, same_new hp, upd_same, .nil, (fun z hz => by cases hz), rfl, (fun z hz => by cases hz), (fun z hz => by cases hz), (fun z hz => by cases hz)⟩ ?_ ?_⟩
    · rintro k σ H1 hk ⟨ml, ys, y4, y5, y6, y7, y8, y9, rfl, s1, hpl, hPl, hrow, hml, hm4, hmu, hmr⟩
      refine ⟨Nat.zero_le _, fun c hc => ?_⟩
      refine ⟨_, rfl, _, rfl, by omega, by omega, for_range (lo := 0) (n := mk) (fun i σ H2 => ∃ (c : Addr) (l : List (NestedKey × Int)) (zs : List V) (z6 z7 z8 z9 : Option V), σ = [some (.ref r), some (.int tn), some (.int mk), some (.ref p), some (.int (0 + (k : Int))), some (.ref c), z6, z7, z8, z9] ∧
          Same H1 H2 ∧ H2 c = some (.tup zs) ∧ PrAll H2 l zs ∧ RowOk l ∧ l.length ≤ i ∧ (∀ y ∈ l, SmM y.1) ∧ tot l ≤ 3 * i) ⟨c, [], [], _, _, _, _, rfl, same_new hc, upd_same, .nil, RowOk.nil, Nat.zero_le _, (fun y h => by cases h), Nat.zero_le _⟩ ?_ ?_⟩
      · rintro i σ H2 hi ⟨c, l, zs, z6, z7, z8, z9, rfl, s2, hcl, hPc, hL, hll, hmm, htt⟩
        obtain ⟨v, hv⟩ := draw_at (rs := rs) hk hi hlen
        have R2 := (s1.trans s2).seq hR
        refine ⟨_, rfl, _, rfl, _, rfl, _, _, rfl, rfl, mulR (by omega) (by omega), _, rfl, _, _, rfl, rfl, _, _, _, _, rfl, rfl, R2, hv, ?_⟩
        refine ⟨_, rfl, _, _, rfl, rfl, (by show (0 : Int) < _; decide), _, rfl, _, _, rfl, rfl, ⟨by decide, by decide⟩, _, _, rfl, rfl, (by show (0 : Int) < _; decide), rfl, .inr ⟨_, rfl, ?_⟩⟩
        refine ⟨_, _, rfl, rfl, mulL (by decide) (by decide), _, _, rfl, rfl, ?_⟩
        refine ⟨_, rfl, _, _, rfl, rfl, _, rfl, _, _, rfl, rfl, ⟨by decide, by decide⟩, _, _, rfl, rfl, (by show (0 : Int) < _; decide), _, _, rfl, rfl, ?_⟩
        refine ⟨_, rfl, _, _, rfl, rfl, ⟨by decide, by decide⟩, _, _, rfl, rfl, (by show (0 : Int) < _; decide), rfl, .inr ⟨_, rfl, ?_⟩⟩
        refine ⟨_, _, rfl, rfl, mulL (by decide) (by decide), _, _, rfl, rfl, ?_⟩
        refine ⟨_, rfl, _, rfl, _, rfl, (by show 2 ≤ sizeLine; decide), fun t1 ht1 => ?_⟩
        refine ⟨_, rfl, _, _, rfl, rfl, ⟨by decide, by decide⟩, _, _, rfl, rfl, (by show (0 : Int) < _; decide), _, _, rfl, rfl, (by show 2 ≤ sizeLine; decide), fun t2 ht2 => ?_⟩
        refine ⟨(by show 1 ≤ sizeLine; decide), fun t3 ht3 => ?_⟩
        generalize hH3 : upd H2 t1 _ = H3
        generalize hH4 : upd H3 t2 _ = H4
        generalize hH5 : upd H4 t3 _ = H5
        rw [hH3] at ht2
        rw [hH3, hH4] at ht3
        have sa : Same H2 H3 := by rw [← hH3]; exact same_new ht1
        have sb : Same H3 H4 := by rw [← hH4]; exact same_new ht2
        have sc : Same H4 H5 := by rw [← hH5]; exact same_new ht3
        obtain ⟨a, b, e1, hab⟩ : ∃ a b : Int, H3 t1 = some (.tup [.int a, .int b]) ∧ smallP (a, b) := ⟨v % 4 + 9 * (if decide (V.int (v / 97 % 5) = V.int 1) = true then (1 : Int) else 0), v % 4 + 9 * (if decide (V.int (v / 97 % 5) = V.int 1) = true then (1 : Int) else 0) + 1 + v / 4 % 3 + 20 * (if decide (V.int (v / 97 % 5) = V.int 2) = true then (1 : Int) else 0), by rw [← hH3]; exact upd_same, small_mark (by omega) (by omega) (by omega) (by omega) ite01.1 ite01.2 ite01.1 ite01.2⟩
        obtain ⟨n, e2, hn3⟩ : ∃ n : Int, H4 t2 = some (.tup [.ref t1, .int n]) ∧ n.natAbs ≤ 3 := ⟨v / 12 % 7 - 3, by rw [← hH4]; exact upd_same, by omega⟩
        have e3 : H5 t3 = some (.tup [.ref t2]) := by rw [← hH5]; exact upd_same
        clear hH3 hH4 hH5
        have s5 := (sa.trans sb).trans sc
        have hmk : Nk H5 (markK a b) (.ref t1) := .tup (sc _ _ (sb _ _ e1)) (.cons (.num _) (.cons (.num _) .nil))
        have hms : ∀ z ∈ l ++ [(markK a b, n)], IsMark z.1 := fun z hz => by
          rcases List.mem_append.mp hz with hz | hz
          · exact hL.rk z hz
          · rw [List.mem_singleton.mp hz]; exact ⟨a, b, rfl⟩
        have hlen1 : (l ++ [(markK a b, n)]).length = l.length + 1 := by rw [List.length_append]; rfl
        refine ⟨c, t3, zs, [.ref t2], l, [(markK a b, n)], rfl, s5 _ _ hcl, e3, hPc.mono s5, .cons (sc _ _ e2) hmk .nil, (by show l.length + 1 ≤ 10000; omega), (keysMark fun z hz => by obtain ⟨u, hu, rfl⟩ := List.mem_map.mp hz; exact hms u hu), fun H6 q' zs' s6 hq' hP' => ?_⟩
        refine ⟨q', _, zs', _, _, _, _, rfl, (s2.trans s5).trans s6, hq', hP', settle_row (by omega) hms, ?_, settle_mk (fun y hy => ?_), ?_⟩
        · have := settle_len (l ++ [(markK a b, n)])
          omega
        · rcases List.mem_append.mp hy with hy | hy
          · exact hmm y hy
          · rw [List.mem_singleton.mp hy]; exact ⟨(a, b), rfl, hab⟩
        · have h1 := settle_tot (l ++ [(markK a b, n)])
          rw [tot_app] at h1
          have h2 : tot [(markK a b, n)] = n.natAbs := by unfold tot; rw [List.map_cons, List.sum_cons, List.map_nil, List.sum_nil]; omega
          omega
      · rintro σ H2 ⟨c, l, zs, z6, z7, z8, z9, rfl, s2, hcl, hPc, hL, hll, hmm, htt⟩
        have R2 := (s1.trans s2).seq hR
        have hpl2 := s2 _ _ hpl
        obtain ⟨v, hv⟩ := row_at (rs := rs) (k := k) (by omega)
        refine ⟨_, rfl, .inl ⟨rfl, _, .inl (.inl hpl2)⟩, _, rfl, _, rfl, _, rfl, _, _, _, _, rfl, rfl, R2, hv, ?_⟩
        refine ⟨_, _, rfl, rfl, ⟨by decide, by decide⟩, _, _, rfl, rfl, (by show (0 : Int) < _; decide), _, _, rfl, rfl, (by show 2 ≤ sizeLine; decide), fun t ht => ?_⟩
        generalize hH3 : upd H2 t _ = H3
        have sa : Same H2 H3 := by rw [← hH3]; exact same_new ht
        obtain ⟨n, e1, hn4⟩ : ∃ n : Int, H3 t = some (.tup [.ref c, .int n]) ∧ n.natAbs ≤ 4 := ⟨v / 90 % 9 - 4, by rw [← hH3]; exact upd_same, by omega⟩
        clear hH3
        have hp3 := sa _ _ hpl2
        have hyl := hPl.length
        have h4 : (20000 : Nat) < sizeLine := by decide
        refine ⟨p, ys, _, rfl, rfl, hp3, by omega, ?_⟩
        have tk : TupK H3 (upd H3 p (.lst (ys ++ [.ref t]))) := fun d zs' e => by rw [upd_ne (ne_of e hp3 (fun z => nomatch z))]; exact e
        have s3 := (s1.trans s2).trans sa
        refine ⟨ml ++ [(rowK l, n)], ys ++ [.ref t], _, _, _, _, _, _, rfl, same_put s3 hp, upd_same, ?_, ?_, ?_, ?_, ?_, ?_⟩
        · exact prAllT tk ((hPl.mono (s2.trans sa)).app (.cons (n := n) e1 ((hPc.mono sa).key (sa _ _ hcl)) .nil))
        · intro z hz
          rcases List.mem_append.mp hz with hz | hz
          · exact hrow z hz
          · rw [List.mem_singleton.mp hz]; exact ⟨l, rfl, hL⟩
        · rw [List.length_append, hml]; rfl
        · intro z hz
          rcases List.mem_append.mp hz with hz | hz
          · exact hm4 z hz
          · rw [List.mem_singleton.mp hz]; exact hn4
        · intro z hz
          rcases List.mem_append.mp hz with hz | hz
          · exact hmu z hz
          · rw [List.mem_singleton.mp hz]
            show (unrow (rowK l)).length ≤ 5
            rw [unrow_row]
            omega
        · intro z hz
          rcases List.mem_append.mp hz with hz | hz
          · exact hmr z hz
          · rw [List.mem_singleton.mp hz]
            show SmR (unrow (rowK l))
            rw [unrow_row]
            exact ⟨hmm, by omega⟩
    · rintro σ H1 ⟨ml, ys, y4, y5, y6, y7, y8, y9, rfl, s1, hpl, hPl, hrow, hml, hm4, hmu, hmr⟩
      refine ⟨_, rfl, p, ys, ml, rfl, .inl (.inl hpl), hPl, by omega, (keysRow fun z hz => by obtain ⟨u, hu, rfl⟩ := List.mem_map.mp hz; exact hrow u hu), fun H' q' zs sa hq hqz hPz => ?_⟩
      exact q H' q' zs _ (s1.trans sa) (s1.free hq) hqz hPz (settle_sum (by omega) hrow) (Nat.le_trans (settle_len ml) (by omega)) (fun z hz => Nat.le_trans (settle_bd hz) (Nat.le_trans (tot_le hm4) (by omega))) (fun z hz => by obtain ⟨u, hu, e⟩ := List.mem_map.mp (settle_keys hz).1; rw [← e]; exact hmu u hu) (Nat.le_trans (settle_len ml) (by omega)) (fun z hz => by obtain ⟨u, hu, e⟩ := List.mem_map.mp (settle_keys hz).1; rw [← e]; exact hmr u hu)

/-! ### a walk over the items of a dict whose keys are nested -/
section
variable {P : Program} {w : World} {K : PySem.W.Frag} {X : Cx}
def DNF (P : Program) (w : World) (H : Hp) (d : Addr) (o : Obj) (kvs : List (NestedKey × Int)) : Prop := ∃ xs : List Ent, H d = some (.frz o (kdO P w d xs)) ∧ Paired (EntOk H) kvs xs ∧ (d == sysModules) = false
theorem frzN2 {pins : List (Addr × Obj)} {σ : L2.St} {H : Hp} {s : Shared} {d : Addr} {o : Obj} {kvs : List (NestedKey × Int)} (I : Inv X pins σ H s) (h : DNF X.prog X.w H d o kvs) :
    (d == sysModules) = false ∧ s.heap.get? d = some o ∧ o.ExactDict ∧ ∃ (es : Array DictEntry) (ep : Nat), o.data = .dict es ep ∧ es.size = kvs.length ∧
      ∀ (i : Nat) (k : NestedKey) (n : Int), kvs[i]? = some (k, n) → ∃ (en : DictEntry) (q : Addr), es[i]? = some en ∧ en.key = .ref q ∧ Nk H k (.ref q) ∧ RelV (.int n) en.val := by
  obtain ⟨xs, hx, pr, hs⟩ := h
  obtain ⟨hd, ⟨o', es, ep, ho, hx2, hdt, he⟩, _⟩ := I.hok d _ hx
  rw [hd] at ho
  cases ho
  refine ⟨hs, hd, hx2, es, ep, hdt, ?_, fun i k n e => ?_⟩
  · have l1 : es.size = xs.length := PySem.size_of_entries he
    have l2 : kvs.length = xs.length := Paired.length pr
    omega
  · obtain ⟨b, hb, e1, e2, e3, t, e4⟩ := paired_get pr e
    have q := PySem.entry_at he i
    rw [hb] at q
    have e1 : k = b.1 := e1
    subst e1
    exact ⟨_, b.2.1, q, rfl, e2, ⟨t, e4⟩⟩
def ItiN (P : Program) (w : World) (d : Addr) (o : Obj) (kvs : List (NestedKey × Int)) : It :=
  ⟨fun i H => DNF P w H d o kvs ∧ i < kvs.length, fun i H x H' => ∃ (T q : Addr) (k : NestedKey) (n : Int), kvs[i]? = some (k, n) ∧ x = .ref T ∧ H T = none ∧ Nk H k (.ref q) ∧ H' = upd H T (.tup [.ref q, .int n]), fun i H => DNF P w H d o kvs ∧ kvs.length ≤ i⟩
theorem turn_itemsN {d : Addr} {o : Obj} {es : Array DictEntry} {ep : Nat} {kvs : List (NestedKey × Int)} {elts : List Expr} {kk : Nat} {tpos : Pos} (it : Addr) (hod : o.data = .dict es ep) :
    Turn P w K (.Tuple elts kk tpos) (ItiN P w d o kvs) [it] it (fun i h => ∃ ok ov, IsItemIter h it d i kvs.length ep ok ov) where
  mem := by simp
  obj := fun i h st b hb => by
    have e : b = it := by simpa using hb
    subst e
    obtain ⟨ok, ov, e⟩ := st
    exact ⟨_, e, fun v z => nomatch z⟩
  keep := fun i h h' st k => let ⟨ok, ov, e⟩ := st; ⟨ok, ov, k it (by simp) _ e⟩
  item := by
    intro X hP hw hK hc i pins s σ H E I hf st hg
    subst hP hw hK
    obtain ⟨hd, hi⟩ := hg
    obtain ⟨hs, hgd, hx, es', ep', hdt, hsz, ent⟩ := frzN2 I hd
    obtain ⟨rfl, rfl⟩ := dict_ep hod hdt
    obtain ⟨⟨k, n⟩, hkv⟩ : ∃ p, kvs[i]? = some p := ⟨kvs[i], List.getElem?_eq_getElem hi⟩
    obtain ⟨en, q, hen, hkey, hq, rv⟩ := ent i k n hkv
    obtain ⟨ok, ov, he⟩ := st
    rw [← hsz] at he
    have hi' : i < es'.size := by omega
    have een : es'[i] = en := by rw [Array.getElem?_eq_getElem hi'] at hen; exact Option.some.inj hen
    have hlt : it < s.heap.objs.size := Heap.lt_size he
    refine wpAny_pyNext_items_item_raw he ⟨o, hgd, hx, hdt⟩ hi' fun h' ho hT hz hk => ?_
    rw [een, hkey] at ho hT
    refine ⟨_, rfl, wpAny_letOwnedTupleGo_items (s := { s with heap := h' }) ho fun h'' he' sb => ?_⟩
    have hT2 : h''.get? s.heap.objs.size = some { cls := .type "tuple", data := .seq #[.ref q, en.val] } := (sb.2 _ (Nat.ne_of_gt hlt)).trans hT
    have new : ObjOk X.prog X.w (upd H s.heap.objs.size (.tup [.ref q, .int n])) h'' s.heap.objs.size (.tup [.ref q, .int n]) :=
      ⟨by show 2 ≤ sizeLine; decide, [.ref q, en.val], .cons rfl (.cons rv .nil), ⟨_, hT2, rfl, _, rfl⟩⟩
    have I1 : Inv X pins σ (upd H s.heap.objs.size (.tup [.ref q, .int n])) { s with heap := h'' } :=
      I.turnedNew (t' := s.toks) (ch := [it]) (fun b ob hb e => (sb.2 b (by simpa using hb)).trans (hk b ob (by simpa using hb) e)) hf (Nat.le_refl _) new
    refine ⟨.ref s.heap.objs.size, _, I1, rfl, ⟨_, q, k, n, hkv, rfl, I.hok.fresh (Nat.le_refl _), hq, rfl⟩, ⟨.ref q, en.val, ?_⟩, fun b hb => ?_⟩
    · rw [← hsz]; exact he'
    · have e : b = it := by simpa using hb
      rw [e, upd_ne (Nat.ne_of_lt hlt)]
      exact (hf it (by simp)).1
  done := by
    intro X hP hw hK hc i pins s σ H E I hf st hg
    subst hP hw hK
    obtain ⟨hd, hi⟩ := hg
    obtain ⟨f0, f1, f2, f3, f4, f5⟩ := hf it (by simp)
    obtain ⟨hs, hgd, hx, es', ep', hdt, hsz, ent⟩ := frzN2 I hd
    obtain ⟨rfl, rfl⟩ := dict_ep hod hdt
    obtain ⟨ok, ov, he⟩ := st
    rw [← hsz] at he
    exact wpAny_pyNext_items_end_raw (I.ok.hd hc) he ⟨o, hgd, hx, hdt⟩ (by omega) fun h' eb => ⟨rfl, I.turned (t' := s.toks) (fun b ob hb e => eb b ob hb e) f0 f1 f3 f4 f5⟩
  self := fun A i s Q E st h => let ⟨_, _, e⟩ := st; PySem.W.kcp_self e h
def iItemsN (P : Program) (w : World) (td : TE) : TI := fun σ H R => td σ H fun x H1 => ∃ d o kvs, x = .ref d ∧ DNF P w H1 d o kvs ∧ R (ItiN P w d o kvs) H1
variable {tg e : Expr} {td : TE} {apos cpos : Pos}
theorem pi_itemsN {elts : List Expr} {kk : Nat} {tpos : Pos} (he : PE X e td) (hbase : attributeBase e "items" X.env (eval e X.env) = eval e X.env := by rfl) (hline : (apos.endLine == cpos.line) = true := by rfl) :
    PI X (.Tuple elts kk tpos) (.Call (.Attribute e "items" apos) [] [] cpos) (iItemsN X.prog X.w td) := by
  refine ⟨fun pins s σ H R I h => ?_⟩
  refine wpAny_Call_method (T := "dict") (id := "dict.items") hbase rfl hline PySem.F.plainAttrs_dict PySem.F.slot_dict_items PySem.F.type_dict_items (thn (he.run pins s σ H _ I h) fun u s1 ⟨x, H1, I1, rx, d, o, kvs, ex, hd, q⟩ => ?_)
  subst ex
  obtain rfl : u = Value.ref d := rx
  obtain ⟨hs, hgd, hx, es, ep, hdt, hsz, ent⟩ := frzN2 I1 hd
  have raw : s1.heap.DictRaw d es ep := ⟨o, hgd, hx, hdt⟩
  refine ⟨raw.typeIs, fun b q => ?_, ?_⟩
  · cases q
    exact ⟨o, hgd, hx.2.1⟩
  have I2 : Inv X pins σ H1 { s1 with heap := s1.heap.push { cls := .type "dict_items", data := .fields #[.ref d] } } := I1.kept (t' := s1.toks) fun b ob q => Heap.get?_push_of_some _ q
  have fin : wpAny (model X.prog X.w) X.A (pyIter (.ref s1.heap.objs.size)) (PIE X pins σ (.Tuple elts kk tpos) R) X.xe { s1 with heap := s1.heap.push { cls := .type "dict_items", data := .fields #[.ref d] } } := by
    refine wpAny_pyIter_items_raw (d := d) (es := es) (ep := ep) ⟨_, Heap.get?_push_size _ rfl, rfl, rfl⟩ (raw.push _) (pi_one (tk := s1.toks) I2 _ (turn_itemsN _ hdt) ⟨.none, .none, ?_⟩ q)
    rw [← hsz]
    exact Heap.get?_push_size _ rfl
  show wpAny _ _ (callWith cpos (.builtin "dict.items") [.ref d] [] []) _ X.xe s1
  exact method_meetsIn PySem.F.slot_dict_items PySem.F.entry_dict_items rfl (PySem.evalArgs_none ⟨rfl, raw.typeIs, PySem.F.args_dict_items_1 _, _, meets_dict_items_raw d hs, ⟨⟨es, ep, raw⟩, fin⟩⟩)
theorem for_itemsN {d : Addr} {o : Obj} {P : Program} {w : World} {kvs : List (NestedKey × Int)} {g : TG} {tb : TS} {D : Ends} {σ : L2.St} {H : Hp} (Pv : Nat → L2.St → Hp → Prop) (h0 : Pv 0 σ H) (keep : ∀ i σ H, i ≤ kvs.length → Pv i σ H → DNF P w H d o kvs)
    (turn : ∀ i k n q T σ' H', kvs[i]? = some (k, n) → Pv i σ' H' → H' T = none → Nk H' k (.ref q) → g (.ref T) σ' (upd H' T (.tup [.ref q, .int n])) fun σ2 H2 => tb { D with nx := Pv (i + 1), ct := Pv (i + 1), bk := D.nx } σ2 H2)
    (last : ∀ σ H, Pv kvs.length σ H → D.nx σ H) :
    ∃ W : Nat → Nat → L2.St → Hp → Prop, (∃ m, W 0 m σ H) ∧ ∀ i m σ H, W i m σ H →
      ((ItiN P w d o kvs).stop i H ∧ D.nx σ H) ∨ ((ItiN P w d o kvs).go i H ∧ ∃ N : L2.St → Hp → Prop, (∀ σ' H', N σ' H' → ∃ m', m' < m ∧ W (i + 1) m' σ' H') ∧ ∀ x H', (ItiN P w d o kvs).yld i H x H' → g x σ H' fun σ2 H2 => tb { D with nx := N, ct := N, bk := D.nx } σ2 H2) := by
  refine ⟨fun i m σ F => i + m = kvs.length ∧ Pv i σ F, ⟨kvs.length, Nat.zero_add _, h0⟩, fun i m σ F ⟨im, pv⟩ => ?_⟩
  have lst := keep i σ F (by omega) pv
  cases m with
  | zero =>
    obtain rfl : i = kvs.length := by omega
    exact .inl ⟨⟨lst, Nat.le_refl _⟩, last σ F pv⟩
  | succ m =>
    have lt : i < kvs.length := by omega
    refine .inr ⟨⟨lst, lt⟩, Pv (i + 1), fun σ' F' pv' => ⟨m, Nat.lt_succ_self m, by omega, pv'⟩, fun x F' yl => ?_⟩
    obtain ⟨T, q, k, n, hk, rfl, hT, hq, rfl⟩ := yl
    exact turn i k n q T σ F hk pv hT hq
end

/-! ### powers of a letter's parts -/
theorem ip_mulU {X : Cx} : PIp X .Mult (rI IntMulOk fun i j => .int (i * j)) := fun _ _ _ _ _ _ _ _ _ I rx ry q => augR (opI fun _ _ _ _ _ _ _ hc q => imul_int q hc) I rx ry q
theorem ip_shrN {X : Cx} : PIp X .RShift (rI (fun _ j => 0 ≤ j) fun i j => .int (i / 2 ^ j.toNat)) := fun _ _ _ _ _ _ _ _ _ I rx ry q => augR iop_shr I rx ry q
theorem pow_nat {b : Int} {e : Nat} (h : b.natAbs < 2 ^ e) (k : Nat) : (b ^ k).natAbs ≤ 2 ^ (e * k) := by
  rw [Int.natAbs_pow, Nat.pow_mul]
  exact Nat.pow_le_pow_left (Nat.le_of_lt h) k
theorem pow_lt {b : Int} {e : Nat} (h : b.natAbs < 2 ^ e) {k m : Nat} (hm : e * k < m) : (b ^ k).natAbs < 2 ^ m :=
  Nat.lt_of_le_of_lt (pow_nat h k) (Nat.pow_lt_pow_right (by decide) hm)
def sp_raised : Sp := fun vs H Q _ => ∃ (b : Int) (n : Nat), vs = [.int b, .int (n : Int)] ∧ b.natAbs < 2 ^ 10 ∧ n ≤ 40 ∧ Q (.int (b ^ n)) H
theorem ok_raised (T : Env K mg) : FnOk P w K mg base CX0 1 T.a_raised T.fd_raised ["base", "power"] sp_raised := by
  refine T.F_raised.ok sc_raised (fun vs H Q E h => ?_) (fun cdv A outer s H vs Q E hr h => ?_)
  · obtain ⟨b, n, rfl, _⟩ := h
    rfl
  · obtain ⟨b, n, rfl, hb, hn, q⟩ := h
    refine ⟨_, (pss_cons (ps_set (i := 2) sc_raised.nd rfl (.inl rfl) pe_int)
 (pss_cons (ps_while PassesOwn.never (pt_cmpR op_gt (pv 1) pe_int (nomark _))
 (C8.pss_cut (ps_if (pt_truth (pe_op op_odd (pv 1) pe_int) (by intro _; rfl))
 (pss_one (ps_aug (i := 2) sc_raised.nd rfl (.inl rfl) (pv 0) ip_mulU))
 pss_nil)
 (pss_cons (ps_aug (i := 0) sc_raised.nd rfl (.inl rfl) (pv 0) ip_mulU)
 (pss_one (ps_aug (i := 1) sc_raised.nd rfl (.inl rfl) pe_int ip_shrN)))))
 (pss_one (ps_ret (pv 2))))), ?_⟩
    refine while_by (fun σ H' => H = H' ∧ ∃ i : Nat, i ≤ 6 ∧ σ = [some (.int (b ^ (2 ^ i))), some (.int ((n / 2 ^ i : Nat) : Int)), some (.int (b ^ (n % 2 ^ i)))])
      (fun σ _ => match σ with | [_, some (.int y), _] => y.toNat | _ => 0) ⟨rfl, 0, Nat.zero_le _, by rw [Nat.pow_zero, Int.pow_one, Nat.div_one, Nat.mod_one, Int.pow_zero]; rfl⟩ ?_ ?_
    · rintro _ _ ⟨rfl, i, hi, rfl⟩
      refine ⟨_, rfl, _, _, rfl, rfl, _, rfl, ite2 (fun hd => ?_) (fun hd => ?_)⟩
      · have hy : 0 < n / 2 ^ i := by have := of_decide_eq_true hd; omega
        have hge : 2 ^ i ≤ n := (Nat.div_pos_iff.mp hy).2
        have hi5 : i ≤ 5 := by
          rcases Nat.lt_or_ge i 6 with z | z
          · omega
          · obtain rfl : i = 6 := by omega
            have : (2 : Nat) ^ 6 = 64 := by decide
            omega
        have hsq : b ^ (2 ^ i) * b ^ (2 ^ i) = b ^ (2 ^ (i + 1)) := by rw [← Int.pow_add, Nat.pow_succ, Nat.mul_two]
        have hdv : n / 2 ^ i / 2 = n / 2 ^ (i + 1) := by rw [Nat.div_div_eq_div_mul, Nat.pow_succ]
        have hmd : n % 2 ^ (i + 1) = n % 2 ^ i + 2 ^ i * (n / 2 ^ i % 2) := Nat.mod_pow_succ
        have hle : 2 ^ i ≤ 32 := Nat.le_trans (Nat.pow_le_pow_right (by decide) hi5) (by decide)
        have hB : (b ^ (2 ^ i)).natAbs < 2 ^ 330 := pow_lt hb (by omega)
        have hR : (b ^ (n % 2 ^ i)).natAbs < 2 ^ 330 := pow_lt hb (by have := Nat.mod_lt n (Nat.pow_pos (n := i) (show 0 < 2 by decide)); omega)
        have hmeas : n / 2 ^ (i + 1) < n / 2 ^ i := by rw [← hdv]; exact Nat.div_lt_self hy (by decide)
        refine ⟨fun σ' H' => H = H' ∧ σ' = [some (.int (b ^ (2 ^ i))), some (.int ((n / 2 ^ i : Nat) : Int)), some (.int (b ^ (n % 2 ^ (i + 1))))], ?_, ?_⟩
        · refine ⟨_, rfl, _, rfl, rfl, _, rfl, ite2 (fun ho => ?_) (fun ho => ?_)⟩
          · have h1 : n / 2 ^ i % 2 = 1 := by
              rcases Nat.mod_two_eq_zero_or_one (n / 2 ^ i) with z | z
              · rw [z] at ho; exact absurd ho (by decide)
              · exact z
            refine ⟨_, rfl, _, rfl, _, _, rfl, rfl, mulW hR hB (by decide) (by decide) (by decide), rfl, ?_⟩
            show [_, _, some (V.int (b ^ (n % 2 ^ i) * b ^ (2 ^ i)))] = _
            rw [hmd, h1, Nat.mul_one, Int.pow_add]
          · have h1 : n / 2 ^ i % 2 = 0 := by
              rcases Nat.mod_two_eq_zero_or_one (n / 2 ^ i) with z | z
              · exact z
              · rw [z] at ho; exact absurd rfl ho
            refine ⟨rfl, ?_⟩
            show [_, _, some (V.int (b ^ (n % 2 ^ i)))] = _
            rw [hmd, h1, Nat.mul_zero, Nat.add_zero]
        · rintro _ _ ⟨rfl, rfl⟩
          refine ⟨_, rfl, _, rfl, _, _, rfl, rfl, mulW hB hB (by decide) (by decide) (by decide), ?_⟩
          refine ⟨_, rfl, _, _, rfl, rfl, (show (0 : Int) ≤ 1 by decide), ⟨rfl, i + 1, by omega, ?_⟩, ?_⟩
          · show [some (V.int (b ^ (2 ^ i) * b ^ (2 ^ i))), some (V.int (((n / 2 ^ i : Nat) : Int) / 2 ^ 1)), _] = _
            rw [hsq, ← hdv]
            rfl
          · show ((((n / 2 ^ i : Nat) : Int) / 2 ^ 1)).toNat < (((n / 2 ^ i : Nat) : Int)).toNat
            omega
      · have hy : n / 2 ^ i = 0 := Nat.eq_zero_of_not_pos fun z => nd hd (Int.natCast_pos.mpr z)
        have hlt : n < 2 ^ i := by
          rcases Nat.lt_or_ge n (2 ^ i) with z | z
          · exact z
          · exact absurd (Nat.div_pos z (Nat.pow_pos (by decide))) (by omega)
        rw [Nat.mod_eq_of_lt hlt]
        exact ⟨_, rfl, q⟩
    · rintro σ H' Q1 Q2 hQ ⟨v, e, i, j, e1, e2, k, e3, q1⟩
      exact ⟨v, e, i, j, e1, e2, k, e3, hQ _ _ q1⟩
def sp_place : Sp := fun vs H Q _ => ∃ n : Int, vs = [.int n] ∧ Q (.int (if n < 0 then 0 else 1)) H
theorem ok_bottom_place (T : Env K mg) : FnOk P w K mg base CX0 1 T.a_bottom_place T.fd_bottom_place ["power"] sp_place := by
  refine T.F_bottom_place.ok sc_bottom_place (fun vs H Q E h => ?_) (fun cdv A outer s H vs Q E hr h => ?_)
  · obtain ⟨n, rfl, _⟩ := h
    rfl
  · obtain ⟨n, rfl, q⟩ := h
    refine ⟨_, (pss_one (ps_ret (pe_ifExp (pt_cmpR op_lt (pv 0) pe_int (nomark _)) pe_int pe_int))), ?_⟩
    refine ⟨_, rfl, _, _, rfl, rfl, _, rfl, ite2 (fun hd => ?_) (fun hd => ?_)⟩
    · rw [if_pos (of_decide_eq_true hd)] at q
      exact q
    · rw [if_neg (nd hd)] at q
      exact q
/-! ### products of powers -/
def unmark : NestedKey → Int × Int
  | .tup [.num a, .num b] => (a, b)
  | _ => (0, 0)
theorem unmark_mark (q : Int × Int) : unmark (markP q) = q := rfl
def keyQ (q : Int × Int) (j : Int) : NestedKey := .tup [markP q, .num j]
def keyP (y : NestedKey × Int) : NestedKey := .tup [y.1, .num (if y.2 < 0 then 0 else 1)]
def keyN (y : NestedKey × Int) : NestedKey := .tup [y.1, .num (1 - (if y.2 < 0 then 0 else 1))]
def partK (f : Int × Int → Int × Int) : NestedKey → Int
  | .tup [m, .num j] => if j = 0 then (f (unmark m)).1 else (f (unmark m)).2
  | _ => 1
def prodK (f : Int × Int → Int × Int) : List (NestedKey × Int) → Int
  | [] => 1
  | p :: l => partK f p.1 ^ p.2.natAbs * prodK f l
variable {f : Int × Int → Int × Int}
theorem prodK_app : ∀ a b : List (NestedKey × Int), prodK f (a ++ b) = prodK f a * prodK f b
  | [], b => by show prodK f b = 1 * prodK f b; rw [Int.one_mul]
  | p :: a, b => by
    show partK f p.1 ^ p.2.natAbs * prodK f (a ++ b) = partK f p.1 ^ p.2.natAbs * prodK f a * prodK f b
    rw [prodK_app a b, Int.mul_assoc]
theorem prodK_one (p : NestedKey × Int) : prodK f [p] = partK f p.1 ^ p.2.natAbs := by show partK f p.1 ^ p.2.natAbs * 1 = _; rw [Int.mul_one]
theorem prodK_pos : ∀ {l : List (NestedKey × Int)}, (∀ p ∈ l, 0 < partK f p.1) → 0 < prodK f l
  | [], _ => by show (0 : Int) < 1; decide
  | p :: l, h => Int.mul_pos (Int.pow_pos (h p (List.mem_cons_self ..))) (prodK_pos fun q hq => h q (List.mem_cons_of_mem _ hq))
theorem tot_cons (p : NestedKey × Int) (l : List (NestedKey × Int)) : tot (p :: l) = p.2.natAbs + tot l := by unfold tot; rw [List.map_cons, List.sum_cons]
theorem prodK_le : ∀ {l : List (NestedKey × Int)}, (∀ p ∈ l, (partK f p.1).natAbs < 2 ^ 10) → (prodK f l).natAbs ≤ 2 ^ (10 * tot l)
  | [], _ => by show (1 : Int).natAbs ≤ 2 ^ (10 * 0); decide
  | p :: l, h => by
    have h1 := pow_nat (h p (List.mem_cons_self ..)) p.2.natAbs
    have h2 := prodK_le (l := l) fun q hq => h q (List.mem_cons_of_mem _ hq)
    show (partK f p.1 ^ p.2.natAbs * prodK f l).natAbs ≤ _
    rw [Int.natAbs_mul, tot_cons, Nat.mul_add, Nat.pow_add]
    exact Nat.mul_le_mul h1 h2
theorem prodK_lt {l : List (NestedKey × Int)} {m : Nat} (h : ∀ p ∈ l, (partK f p.1).natAbs < 2 ^ 10) (hm : 10 * tot l < m) : (prodK f l).natAbs < 2 ^ m :=
  Nat.lt_of_le_of_lt (prodK_le h) (Nat.pow_lt_pow_right (by decide) hm)
theorem prodK_erase [BEq (NestedKey × Int)] [LawfulBEq (NestedKey × Int)] {p : NestedKey × Int} : ∀ {l : List (NestedKey × Int)}, p ∈ l → prodK f l = partK f p.1 ^ p.2.natAbs * prodK f (l.erase p)
  | [], h => nomatch h
  | q :: l, h => by
    by_cases e : q = p
    · subst e
      rw [List.erase_cons_head]
      rfl
    · rw [List.erase_cons_tail (by simpa using e)]
      show partK f q.1 ^ q.2.natAbs * prodK f l = partK f p.1 ^ p.2.natAbs * (partK f q.1 ^ q.2.natAbs * prodK f (l.erase p))
      rw [prodK_erase ((List.mem_cons.mp h).resolve_left (Ne.symm e)), Int.mul_left_comm]
theorem prodK_dvd : ∀ (ps l : List (NestedKey × Int)), (ps.map (·.1)).Nodup → (∀ q ∈ ps, ∃ v : Int, (q.1, v) ∈ l ∧ q.2.natAbs ≤ v.natAbs) → prodK f ps ∣ prodK f l
  | [], l, _, _ => Int.one_dvd _
  | p :: ps, l, hn, h => by
    classical
    obtain ⟨v, hv, hle⟩ := h p (List.mem_cons_self ..)
    obtain ⟨h1, h2⟩ := List.nodup_cons.mp hn
    letI : BEq (NestedKey × Int) := instBEqOfDecidableEq
    rw [prodK_erase hv]
    refine Int.mul_dvd_mul ⟨partK f p.1 ^ (v.natAbs - p.2.natAbs), by rw [← Int.pow_add]; congr 1; omega⟩ (prodK_dvd ps _ h2 fun q hq => ?_)
    obtain ⟨u, hu, hle2⟩ := h q (List.mem_cons_of_mem _ hq)
    refine ⟨u, (List.mem_erase_of_ne fun e => ?_).mpr hu, hle2⟩
    exact h1 (List.mem_map.mpr ⟨q, hq, (Prod.mk.inj e).1⟩)
/-- the marks of a row and what the dict most holds -/
structure Most (dom : List (Int × Int)) (ys kvs : List (NestedKey × Int)) : Prop where
  cov : ∀ y ∈ ys, ∃ v : Int, (keyP y, v) ∈ kvs ∧ y.2.natAbs ≤ v.natAbs
  shp : ∀ p ∈ kvs, ∃ (q : Int × Int) (j : Int), p.1 = keyQ q j ∧ q ∈ dom ∧ (j = 0 ∨ j = 1) ∧ 0 ≤ p.2 ∧ p.2 ≤ 40
  tt : tot kvs ≤ tot ys
  few : kvs.length ≤ ys.length
theorem Most.nil {dom : List (Int × Int)} : Most dom [] [] := ⟨fun _ h => (nomatch h), fun _ h => (nomatch h), Nat.le_refl _, Nat.le_refl _⟩
theorem lookN_mem {kvs : List (NestedKey × Int)} {k : NestedKey} {n : Int} (h : lookN kvs k = some n) : (k, n) ∈ kvs := by
  unfold lookN at h
  obtain ⟨p, hp, e⟩ := Option.map_eq_some_iff.mp h
  have h1 := List.mem_of_find?_eq_some hp
  have h2 := List.find?_some hp
  obtain ⟨a, b⟩ := p
  have h3 : a = k := of_decide_eq_true h2
  have e : b = n := e
  subst h3; subst e
  exact h1
theorem tot_set {k : NestedKey} {n m : Int} : ∀ {kvs : List (NestedKey × Int)}, (kvs.map (·.1)).Nodup → (k, n) ∈ kvs → tot (kvs.map fun p => if p.1 = k then (p.1, m) else p) + n.natAbs = tot kvs + m.natAbs
  | [], _, h => nomatch h
  | p :: l, hn, h => by
    obtain ⟨h1, h2⟩ := List.nodup_cons.mp hn
    rw [List.map_cons, tot_cons, tot_cons]
    by_cases e : p.1 = k
    · have hid : l.map (fun p => if p.1 = k then (p.1, m) else p) = l := by
        have : l.map (fun p => if p.1 = k then (p.1, m) else p) = l.map id := List.map_congr_left fun q hq => if_neg fun z => h1 (List.mem_map.mpr ⟨q, hq, z.trans e.symm⟩)
        rw [this, List.map_id]
      have hp : p = (k, n) := by
        rcases List.mem_cons.mp h with z | z
        · exact z.symm
        · exact absurd (List.mem_map.mpr ⟨_, z, e.symm⟩) h1
      rw [hid, if_pos e]
      subst hp
      show m.natAbs + tot l + n.natAbs = n.natAbs + tot l + m.natAbs
      omega
    · rw [if_neg e]
      have := tot_set (m := m) h2 ((List.mem_cons.mp h).resolve_left fun z => e (by rw [← z]))
      omega
theorem Most.step {dom : List (Int × Int)} {ys kvs : List (NestedKey × Int)} {y : NestedKey × Int} {q : Int × Int} (h : Most dom ys kvs) (nd : (kvs.map (·.1)).Nodup) (hy : y.1 = markP q) (hq : q ∈ dom) (h40 : y.2.natAbs ≤ 40) {m : Int} (hm : m = max ((lookN kvs (keyP y)).getD 0) (y.2.natAbs : Int)) :
    Most dom (ys ++ [y]) (putN kvs (keyP y) m) := by
  have hkey : keyP y = keyQ q (if y.2 < 0 then 0 else 1) := by unfold keyP keyQ; rw [hy]
  have hj : (if y.2 < 0 then (0 : Int) else 1) = 0 ∨ (if y.2 < 0 then (0 : Int) else 1) = 1 := by split; exact .inl rfl; exact .inr rfl
  have t1 : tot (ys ++ [y]) = tot ys + y.2.natAbs := by rw [tot_app, tot_cons]; rfl
  have l1 : (ys ++ [y]).length = ys.length + 1 := by rw [List.length_append]; rfl
  have ht := h.tt
  have hf := h.few
  cases e : lookN kvs (keyP y) with
  | none =>
    rw [e] at hm
    have hm : m = y.2.natAbs := by show m = _; rw [hm]; show max (0 : Int) _ = _; omega
    have ep : putN kvs (keyP y) m = kvs ++ [(keyP y, m)] := by unfold putN; rw [e]; rfl
    rw [ep]
    refine ⟨fun z hz => ?_, fun p hp => ?_, ?_, ?_⟩
    · rcases List.mem_append.mp hz with hz | hz
      · obtain ⟨v, a, b⟩ := h.cov z hz
        exact ⟨v, List.mem_append_left _ a, b⟩
      · rw [List.mem_singleton.mp hz]
        exact ⟨m, List.mem_append_right _ (List.mem_singleton.mpr rfl), by omega⟩
    · rcases List.mem_append.mp hp with hp | hp
      · exact h.shp p hp
      · rw [List.mem_singleton.mp hp]
        exact ⟨q, _, hkey, hq, hj, by show 0 ≤ m; omega, by show m ≤ 40; omega⟩
    · rw [tot_app, tot_cons, t1]
      show tot kvs + (m.natAbs + 0) ≤ _
      omega
    · rw [List.length_append, l1]
      show kvs.length + 1 ≤ _
      omega
  | some n =>
    rw [e] at hm
    have hm : m = max n (y.2.natAbs : Int) := hm
    have hmem := lookN_mem e
    obtain ⟨_, _, _, _, _, n0, n40⟩ := h.shp _ hmem
    have n0 : 0 ≤ n := n0
    have n40 : n ≤ 40 := n40
    have ep : putN kvs (keyP y) m = kvs.map fun p => if p.1 = keyP y then (p.1, m) else p := by unfold putN; rw [e]; rfl
    have hts := tot_set (m := m) nd hmem
    rw [ep]
    have put : ∀ {k : NestedKey} {v : Int}, (k, v) ∈ kvs → ∃ v', (k, v') ∈ kvs.map (fun p => if p.1 = keyP y then (p.1, m) else p) ∧ v.natAbs ≤ v'.natAbs := fun {k v} hk => by
      by_cases ek : k = keyP y
      · refine ⟨m, List.mem_map.mpr ⟨_, hk, by show (if k = keyP y then (k, m) else (k, v)) = _; rw [if_pos ek]⟩, ?_⟩
        have : v = n := by
          subst ek
          obtain ⟨i, hi⟩ := List.mem_iff_getElem?.mp hk
          obtain ⟨j, hj'⟩ := List.mem_iff_getElem?.mp hmem
          have hi2 : (kvs.map (·.1))[i]? = some (keyP y) := by rw [List.getElem?_map, hi]; rfl
          have hj2 : (kvs.map (·.1))[j]? = some (keyP y) := by rw [List.getElem?_map, hj']; rfl
          have hlt : i < (kvs.map (·.1)).length := (List.getElem?_eq_some_iff.mp hi2).1
          have := (List.getElem?_inj hlt nd).mp (hi2.trans hj2.symm)
          subst this
          rw [hi] at hj'
          cases hj'
          rfl
        omega
      · exact ⟨v, List.mem_map.mpr ⟨_, hk, by show (if k = keyP y then (k, m) else (k, v)) = _; rw [if_neg ek]⟩, Nat.le_refl _⟩
    refine ⟨fun z hz => ?_, fun p hp => ?_, ?_, ?_⟩
    · rcases List.mem_append.mp hz with hz | hz
      · obtain ⟨v, a, b⟩ := h.cov z hz
        obtain ⟨v', a', b'⟩ := put a
        exact ⟨v', a', by omega⟩
      · rw [List.mem_singleton.mp hz]
        refine ⟨m, List.mem_map.mpr ⟨_, hmem, by show (if keyP y = keyP y then (keyP y, m) else (keyP y, n)) = _; rw [if_pos rfl]⟩, by omega⟩
    · obtain ⟨p0, hp0, rfl⟩ := List.mem_map.mp hp
      obtain ⟨q', j', a1, a2, a3, a4, a5⟩ := h.shp p0 hp0
      split
      · exact ⟨q', j', a1, a2, a3, by show 0 ≤ m; omega, by show m ≤ 40; omega⟩
      · exact ⟨q', j', a1, a2, a3, a4, a5⟩
    · omega
    · rw [List.length_map]; omega

/-! ### a row's worth -/
def above (f : Int × Int → Int × Int) (r : List (NestedKey × Int)) : Int := prodK f (r.map fun y => (keyN y, y.2))
def below (f : Int × Int → Int × Int) (r : List (NestedKey × Int)) : Int := prodK f (r.map fun y => (keyP y, y.2))
theorem above_more {r : List (NestedKey × Int)} {i : Nat} {y : NestedKey × Int} (h : r[i]? = some y) : above f (r.take (i + 1)) = above f (r.take i) * partK f (keyN y) ^ y.2.natAbs := by
  unfold above
  rw [take_more' h, List.map_append, prodK_app]
  congr 1
  exact prodK_one _
theorem below_more {r : List (NestedKey × Int)} {i : Nat} {y : NestedKey × Int} (h : r[i]? = some y) : below f (r.take (i + 1)) = below f (r.take i) * partK f (keyP y) ^ y.2.natAbs := by
  unfold below
  rw [take_more' h, List.map_append, prodK_app]
  congr 1
  exact prodK_one _
structure RwM (dom : List (Int × Int)) (r : List (NestedKey × Int)) : Prop where
  mq : ∀ y ∈ r, ∃ q, y.1 = markP q ∧ smallP q ∧ q ∈ dom
  tt : tot r ≤ 40
theorem F2.top10 {x : Int × Int} (h : F2 10 7 x) : x.1.natAbs < 2 ^ 10 := (natAbs_lt_pow h.top).mpr h.bt
theorem F2.bot10 {x : Int × Int} (h : F2 10 7 x) : x.2.natAbs < 2 ^ 10 := Nat.lt_of_lt_of_le ((natAbs_lt_pow h.low.pos).mpr h.bb) (by decide)
theorem part_at {q : Int × Int} (h : F2 10 7 (f q)) (j : Int) : 0 < partK f (keyQ q j) ∧ (partK f (keyQ q j)).natAbs < 2 ^ 10 := by
  show 0 < (if j = 0 then (f q).1 else (f q).2) ∧ (if j = 0 then (f q).1 else (f q).2).natAbs < 2 ^ 10
  split
  · exact ⟨h.top, h.top10⟩
  · exact ⟨h.low.pos, h.bot10⟩
theorem part_of {dom : List (Int × Int)} (hf : ∀ q ∈ dom, F2 10 7 (f q)) {y : NestedKey × Int} (h : ∃ q, y.1 = markP q ∧ smallP q ∧ q ∈ dom) (j : Int) : 0 < partK f (.tup [y.1, .num j]) ∧ (partK f (.tup [y.1, .num j])).natAbs < 2 ^ 10 := by
  obtain ⟨q, e, _, hq⟩ := h
  rw [e]
  exact part_at (hf q hq) j
theorem tot_take (r : List (NestedKey × Int)) (i : Nat) : tot (r.take i) ≤ tot r := by
  have : tot (r.take i ++ r.drop i) = tot (r.take i) + tot (r.drop i) := tot_app _ _
  rw [List.take_append_drop] at this
  omega
theorem tot_map (g : NestedKey × Int → NestedKey) (r : List (NestedKey × Int)) : tot (r.map fun y => (g y, y.2)) = tot r := by
  unfold tot
  rw [List.map_map]
  rfl
theorem above_lt {dom : List (Int × Int)} (hf : ∀ q ∈ dom, F2 10 7 (f q)) {r : List (NestedKey × Int)} (h : RwM dom r) (i : Nat) : 0 < above f (r.take i) ∧ (above f (r.take i)).natAbs < 2 ^ 401 := by
  have ha : ∀ p ∈ (r.take i).map (fun y => (keyN y, y.2)), 0 < partK f p.1 ∧ (partK f p.1).natAbs < 2 ^ 10 := fun p hp => by
    obtain ⟨y, hy, rfl⟩ := List.mem_map.mp hp
    exact part_of hf (h.mq y (List.mem_of_mem_take hy)) _
  have h1 := tot_take r i
  have h2 := h.tt
  exact ⟨prodK_pos fun p hp => (ha p hp).1, prodK_lt (fun p hp => (ha p hp).2) (by rw [tot_map]; omega)⟩
theorem below_lt {dom : List (Int × Int)} (hf : ∀ q ∈ dom, F2 10 7 (f q)) {r : List (NestedKey × Int)} (h : RwM dom r) (i : Nat) : 0 < below f (r.take i) ∧ (below f (r.take i)).natAbs < 2 ^ 401 := by
  have ha : ∀ p ∈ (r.take i).map (fun y => (keyP y, y.2)), 0 < partK f p.1 ∧ (partK f p.1).natAbs < 2 ^ 10 := fun p hp => by
    obtain ⟨y, hy, rfl⟩ := List.mem_map.mp hp
    exact part_of hf (h.mq y (List.mem_of_mem_take hy)) _
  have h1 := tot_take r i
  have h2 := h.tt
  exact ⟨prodK_pos fun p hp => (ha p hp).1, prodK_lt (fun p hp => (ha p hp).2) (by rw [tot_map]; omega)⟩
theorem atI_part (x : Int × Int) {j : Int} (h : j = 0 ∨ j = 1) : atI [V.int x.1, V.int x.2] j = some (.int (if j = 0 then x.1 else x.2)) := by
  rcases h with rfl | rfl
  · exact atI_nat (j := 0) rfl
  · exact atI_nat (j := 1) rfl
theorem tot_mem {l : List (NestedKey × Int)} {y : NestedKey × Int} (h : y ∈ l) : y.2.natAbs ≤ tot l := by
  induction l with
  | nil => cases h
  | cons p l ih =>
    rw [tot_cons]
    rcases List.mem_cons.mp h with rfl | h
    · omega
    · have := ih h
      omega
def sp_row_worth (K : PySem.W.Frag) : Sp := fun vs H Q _ => ∃ (a d : Addr) (xs : List V) (r : List (NestedKey × Int)) (dom : List (Int × Int)) (f : Int × Int → Int × Int), vs = [.ref a, .ref d] ∧ H a = some (.tup xs) ∧ PrAll H r xs ∧ RwM dom r ∧ FD K H d dom f ∧ (∀ q ∈ dom, F2 10 7 (f q)) ∧
  ∀ H' t, Same H H' → H' t = some (.tup [.int (above f r), .int (below f r)]) → Q (.ref t) H'
theorem ok_row_worth (T : Env K mg) : FnOk P w K mg base CX0 2 T.a_row_worth T.fd_row_worth ["row", "lengths"] (sp_row_worth K) := by
  refine T.F_row_worth.ok sc_row_worth (fun vs H Q E h => ?_) (fun cdv A outer s H vs Q E hr h => ?_)
  · obtain ⟨a, d, _, _, _, _, rfl, _⟩ := h
    rfl
  · obtain ⟨a, d, xs, r, dom, f, rfl, ha, hP, hR, hD, hf, q⟩ := h
    refine ⟨_, (pss_cons (ps_asg2 pe_int (pg_name (i := 2) sc_row_worth.nd rfl (.inl rfl)) (pg_name (i := 3) sc_row_worth.nd rfl (.inl rfl)))
 (pss_cons (ps_for PassesOwn.never rfl (pi_tup (pv 0)) (pg_tup rfl (pgs_cons (pg_name (i := 4) sc_row_worth.nd rfl (.inl rfl)) (pgs_cons (pg_name (i := 5) sc_row_worth.nd rfl (.inl rfl)) pgs_nil)))
 (pss_cons (ps_set (i := 6) sc_row_worth.nd rfl (.inl rfl) (pe_call (ok_bottom_place T) (hr.mono (by decide)) (by rfl) T.g_bottom_place T.F_bottom_place.kp T.b_bottom_place .nil pass0 (pa_cons (pv 5) pa_nil)))
 (pss_cons (ps_aug (i := 2) sc_row_worth.nd rfl (.inl rfl) (pe_call (ok_raised T) (hr.mono (by decide)) (by rfl) T.g_raised T.F_raised.kp T.b_raised .nil pass0 (pa_cons (pe_ix ix_tup (pe_dget (hu_of hr) (pv 1) (pv 4) (fun _ _ => rfl)) (pe_op op_sub pe_int (pv 6)) (fun _ _ => rfl)) (pa_cons (pe_callB call_abs (by rfl) T.m_abs (by decide +kernel) (pa_cons (pv 5) pa_nil)) pa_nil))) ip_mulU)
 (pss_one (ps_aug (i := 3) sc_row_worth.nd rfl (.inl rfl) (pe_call (ok_raised T) (hr.mono (by decide)) (by rfl) T.g_raised T.F_raised.kp T.b_raised .nil pass0 (pa_cons (pe_ix ix_tup (pe_dget (hu_of hr) (pv 1) (pv 4) (fun _ _ => rfl)) (pv 6) (fun _ _ => rfl)) (pa_cons (pe_callB call_abs (by rfl) T.m_abs (by decide +kernel) (pa_cons (pv 5) pa_nil)) pa_nil))) ip_mulU)))))
 (pss_one (ps_ret (pe_tup (pa_cons (pv 2) (pa_cons (pv 3) pa_nil))))))), ?_⟩
    refine ⟨_, rfl, a, rfl, ⟨_, .inl (.inl ha)⟩, for_tup (K := K) (a := a) (xs := xs) (fun i σ H' => H' = H ∧ ∃ (y4 y5 y6 : Option V), σ = [some (.ref a), some (.ref d), some (.int (above f (r.take i))), some (.int (below f (r.take i))), y4, y5, y6]) ?_ ?_ ?_ ?_⟩
    · exact ⟨rfl, _, _, _, rfl⟩
    · rintro i σ H' _ ⟨rfl, _⟩
      exact .inl (.inl ha)
    · rintro i x σ H' hi ⟨rfl, y4, y5, y6, rfl⟩
      obtain ⟨k, n, t, b1, hl', rfl, ht, hb1⟩ := hP.at hi
      have hmem := List.mem_of_getElem? hl'
      obtain ⟨pq, hk, hs, hq⟩ := hR.mq _ hmem
      have hk : k = markP pq := hk
      have hu := nk_mark (hk ▸ hb1)
      have hp40 : n.natAbs ≤ 40 := Nat.le_trans (tot_mem hmem) hR.tt
      obtain ⟨⟨kvs, e, re⟩, _, _⟩ := hD
      obtain ⟨va, ga, u, rfl, hua⟩ := Ents.get re hq
      have hdg : DGet H' d (.ref b1) (some (.ref u)) := by rw [← ga]; exact DGet.t e (key_pk hu)
      have hF := hf pq hq
      have hj : (if n < 0 then (0 : Int) else 1) = 0 ∨ (if n < 0 then (0 : Int) else 1) = 1 := by split; exact .inl rfl; exact .inr rfl
      have hj' : 1 - (if n < 0 then (0 : Int) else 1) = 0 ∨ 1 - (if n < 0 then (0 : Int) else 1) = 1 := by omega
      have pP : partK f (keyP (k, n)) = if (if n < 0 then (0 : Int) else 1) = 0 then (f pq).1 else (f pq).2 := by unfold keyP; rw [hk]; rfl
      have pN : partK f (keyN (k, n)) = if 1 - (if n < 0 then (0 : Int) else 1) = 0 then (f pq).1 else (f pq).2 := by unfold keyN; rw [hk]; rfl
      have bP := (part_of hf (hR.mq _ hmem) (if n < 0 then (0 : Int) else 1)).2
      have bN := (part_of hf (hR.mq _ hmem) (1 - (if n < 0 then (0 : Int) else 1))).2
      have bP : (partK f (keyP (k, n))).natAbs < 2 ^ 10 := bP
      have bN : (partK f (keyN (k, n))).natAbs < 2 ^ 10 := bN
      have ab : (if n < 0 then -n else n) = (n.natAbs : Int) := by split <;> omega
      have m1 := above_more (f := f) hl'
      have m2 := below_more (f := f) hl'
      have a1 := (above_lt hf hR i).2
      have a2 := (below_lt hf hR i).2
      refine ⟨t, _, rfl, .inl (.inl ht), rfl, _, _, rfl, _, _, rfl, rfl, ?_⟩
      refine ⟨_, rfl, n, rfl, ?_⟩
      refine ⟨_, rfl, _, rfl, _, rfl, d, .ref u, rfl, hdg, _, rfl, _, _, rfl, rfl, u, _, _, _, rfl, rfl, .inl (.inl hua), atI_part (f pq) hj', ?_⟩
      refine ⟨_, rfl, n, rfl, ?_⟩
      rw [ab, ← pN]
      refine ⟨_, n.natAbs, rfl, bN, hp40, _, _, rfl, rfl, mulW a1 (pow_lt (m := 401) bN (by omega)) (by decide) (by decide) (by decide), ?_⟩
      refine ⟨_, rfl, _, rfl, _, rfl, d, .ref u, rfl, hdg, _, rfl, u, _, _, _, rfl, rfl, .inl (.inl hua), atI_part (f pq) hj, ?_⟩
      refine ⟨_, rfl, n, rfl, ?_⟩
      rw [ab, ← pP]
      refine ⟨_, n.natAbs, rfl, bP, hp40, _, _, rfl, rfl, mulW a2 (pow_lt (m := 401) bP (by omega)) (by decide) (by decide) (by decide), ?_⟩
      rw [m1, m2]
      exact ⟨rfl, _, _, _, rfl⟩
    · rintro σ H' ⟨rfl, y4, y5, y6, rfl⟩
      rw [hP.length, List.take_length]
      exact ⟨_, rfl, _, rfl, (by show 2 ≤ sizeLine; decide), fun p hp => q _ p (same_new hp) upd_same⟩

/-! ### one bottom for all rows -/
def flm (l : List (NestedKey × Int)) : List (NestedKey × Int) := l.flatMap fun z => unrow z.1
theorem flm_more {l : List (NestedKey × Int)} {i : Nat} {z : NestedKey × Int} (h : l[i]? = some z) : flm (l.take (i + 1)) = flm (l.take i) ++ unrow z.1 := by
  unfold flm
  rw [take_more' h, List.flatMap_append]
  congr 1
  exact List.append_nil _
theorem flm_tot : ∀ {l : List (NestedKey × Int)}, (∀ z ∈ l, SmR (unrow z.1)) → tot (flm l) ≤ 40 * l.length
  | [], _ => Nat.zero_le _
  | z :: l, h => by
    have h1 := (h z (List.mem_cons_self ..)).tt
    have h2 := flm_tot (l := l) fun u hu => h u (List.mem_cons_of_mem _ hu)
    have e : flm (z :: l) = unrow z.1 ++ flm l := List.flatMap_cons ..
    rw [e, tot_app, List.length_cons]
    omega
theorem flm_len : ∀ {l : List (NestedKey × Int)}, (∀ z ∈ l, (unrow z.1).length ≤ 5) → (flm l).length ≤ 5 * l.length
  | [], _ => Nat.zero_le _
  | z :: l, h => by
    have h1 := h z (List.mem_cons_self ..)
    have h2 := flm_len (l := l) fun u hu => h u (List.mem_cons_of_mem _ hu)
    have e : flm (z :: l) = unrow z.1 ++ flm l := List.flatMap_cons ..
    rw [e, List.length_append, List.length_cons]
    omega
theorem nk_keyQ {H : Hp} {p : Int × Int} {j : Int} {q : Addr} (h : Nk H (keyQ p j) (.ref q)) : ∃ b, H q = some (.tup [.ref b, .int j]) ∧ H b = some (.tup [.int p.1, .int p.2]) := by
  cases h with
  | tup e r =>
    cases r with
    | cons r1 r2 =>
      cases r2 with
      | cons r2 r3 =>
        cases r3
        cases r2
        cases r1 with
        | @tup b xs ks e1 r1 => exact ⟨b, e, nk_mark (.tup e1 r1)⟩
theorem klt_ne {a b : NestedKey} (h : KLt a b) : a ≠ b := fun e => by
  subst e
  have h : PySem.W.dataLt (kdat a) (kdat a) = true := h
  unfold PySem.W.dataLt at h
  rw [PyProof.Rows.lex_irrefl] at h
  cases h
def sp_bottom (K : PySem.W.Frag) (C : Addr) : Sp := fun vs H Q E => ∃ (a d : Addr) (l : List (NestedKey × Int)) (dom : List (Int × Int)) (f : Int × Int → Int × Int), vs = [.ref a, .ref d] ∧ SumAt H a l ∧ (∀ z ∈ l, SmR (unrow z.1)) ∧ l.length ≤ 5 ∧ FD K H d dom f ∧ (∀ q ∈ dom, F2 10 7 (f q)) ∧
  ((∃ y ∈ flm l, unmark y.1 ∉ dom) → ∀ H', Same H H' → E (.ref C) none H') ∧
  ((∀ y ∈ flm l, unmark y.1 ∈ dom) → ∀ H' B, Same H H' → 0 < B → B.natAbs < 2 ^ 2010 → (∀ z ∈ l, below f (unrow z.1) ∣ B) → Q (.int B) H')
theorem ok_shared_bottom (T : Env K mg) : FnOk P w K mg base (L2.CX P w) 2 T.a_shared_bottom T.fd_shared_bottom ["one", "lengths"] (sp_bottom K T.C_NoLetter) := by
  refine T.F_shared_bottom.okX sc_shared_bottom (fun vs H Q E h => ?_) (fun cdv A outer s H vs Q E hr h => ?_)
  · obtain ⟨a, d, _, _, _, rfl, _⟩ := h
    rfl
  · obtain ⟨a, d, l, dom, f, rfl, hA, hS, h5, hD, hf, kE, kQ⟩ := h
    obtain ⟨xs, ha, hP⟩ := hA.ex
    refine ⟨_, (pss_cons (ps_set (i := 2) sc_shared_bottom.nd rfl (.inl rfl) (pe_dnewN (P := P) (w := w) rfl rfl))
 (pss_cons (ps_for (passes_of rfl) rfl (pi_list (pv 0)) (pg_tup rfl (pgs_cons (pg_name (i := 3) sc_shared_bottom.nd rfl (.inl rfl)) (pgs_cons (pg_name (i := 4) sc_shared_bottom.nd rfl (.inl rfl)) pgs_nil)))
 (pss_one (ps_for (passes_of rfl) rfl (pi_tup (pv 3)) (pg_tup rfl (pgs_cons (pg_name (i := 5) sc_shared_bottom.nd rfl (.inl rfl)) (pgs_cons (pg_name (i := 6) sc_shared_bottom.nd rfl (.inl rfl)) pgs_nil)))
 (pss_cons (ps_if (pt_cmp (pc_dnotin (hu_of hr) (pv 5) (pv 1)))
 (pss_one (ps_raise rfl (takes_of rfl rfl rfl rfl) (pmk_own PySem.F.excBase_ValueError T.x_NoLetter T.c_NoLetter T.k_NoLetter (raises_own T.bs_NoLetter T.ty_NoLetter) rfl)))
 pss_nil)
 (pss_cons (ps_set (i := 7) sc_shared_bottom.nd rfl (.inl rfl) (pe_tup (pa_cons (pv 5) (pa_cons (pe_call (ok_bottom_place T) (hr.mono (by decide)) (by rfl) T.g_bottom_place T.F_bottom_place.kp T.b_bottom_place .nil pass0 (pa_cons (pv 6) pa_nil)) pa_nil))))
 (pss_one (ps_putN (P := P) (w := w) rfl rfl (by exact hr.units) (pv 2) (pv 7) (pe_callB (call_max2 rfl) (by rfl) T.m_max (by decide +kernel) (pa_cons (pe_getN (P := P) (w := w) rfl rfl (by exact hr.units) (pv 2) (pv 7) pe_int ⟨rfl, rfl, rfl, rfl⟩) (pa_cons (pe_callB call_abs (by rfl) T.m_abs (by decide +kernel) (pa_cons (pv 6) pa_nil)) pa_nil))) rfl)))))))
 (pss_cons (ps_set (i := 8) sc_shared_bottom.nd rfl (.inl rfl) pe_int)
 (pss_cons (ps_lock (ps_for (passes_of rfl) rfl (pi_itemsN (pv 2)) (pg_tup rfl (pgs_cons (pg_tup rfl (pgs_cons (pg_name (i := 5) sc_shared_bottom.nd rfl (.inl rfl)) (pgs_cons (pg_name (i := 9) sc_shared_bottom.nd rfl (.inl rfl)) pgs_nil))) (pgs_cons (pg_name (i := 6) sc_shared_bottom.nd rfl (.inl rfl)) pgs_nil)))
 (pss_one (ps_aug (i := 8) sc_shared_bottom.nd rfl (.inl rfl) (pe_call (ok_raised T) (hr.mono (by decide)) (by rfl) T.g_raised T.F_raised.kp T.b_raised .nil pass0 (pa_cons (pe_ix (r := rIxT K) ix_tup (pe_dget (hu_of hr) (pv 1) (pv 5) (fun _ _ => rfl)) (pv 9) (fun _ _ => rfl)) (pa_cons (pv 6) pa_nil))) ip_mulU))))
 (pss_one (ps_ret (pv 8))))))), ?_⟩
    intro D hDn hDm
    have s0 := same_new (o := kdO P w D []) hDn
    have D0 : DN P w (upd H D (kdO P w D [])) D [] := dn_new hDm
    generalize upd H D (kdO P w D []) = H0 at *
    refine ⟨_, rfl, a, rfl, ⟨_, .inl (.inl (s0 _ _ ha))⟩, for_list (K := K) (a := a) (xs := xs) (fun i σ H' => ∃ (y3 y4 y5 y6 y7 y8 y9 : Option V) (kvs : List (NestedKey × Int)), σ = [some (.ref a), some (.ref d), some (.ref D), y3, y4, y5, y6, y7, y8, y9] ∧
      Same H H' ∧ DN P w H' D kvs ∧ Most dom (flm (l.take i)) kvs ∧ ∀ y ∈ flm (l.take i), unmark y.1 ∈ dom) ⟨_, _, _, _, _, _, _, [], rfl, s0, D0, Most.nil, fun _ h => nomatch h⟩ (fun i σ H' _ ⟨_, _, _, _, _, _, _, _, _, s1, _⟩ => .inl (.inl (s1 _ _ ha))) ?_ ?_⟩
    · rintro i x σ H1 hi ⟨y3, y4, y5, y6, y7, y8, y9, kvs, rfl, s1, D1, M1, in1⟩
      obtain ⟨k, n, t, b1, hl', rfl, ht, hb1⟩ := hP.at hi
      have hmem := List.mem_of_getElem? hl'
      obtain ⟨r, hk, hR⟩ := hA.ok.rk _ hmem
      have hk : k = rowK r := hk
      subst hk
      have hsm : SmR (unrow (rowK r)) := hS _ hmem
      have hsh : (unrow (rowK r)).length ≤ 5 := hA.sh _ hmem
      rw [unrow_row] at hsh hsm
      obtain ⟨us, hbu, hPu⟩ := nk_row hR.rk hb1
      have hfl := flm_more hl'
      rw [show unrow ((rowK r, n) : NestedKey × Int).1 = r from unrow_row r] at hfl
      have hlen : (flm (l.take i)).length ≤ 25 := by
        have h1 := flm_len (l := l.take i) fun z hz => hA.sh z (List.mem_of_mem_take hz)
        rw [List.length_take] at h1
        omega
      have hall : ∀ y ∈ r, y ∈ flm l := fun y hy => List.mem_flatMap.mpr ⟨_, hmem, by rw [show unrow ((rowK r, n) : NestedKey × Int).1 = r from unrow_row r]; exact hy⟩
      refine ⟨t, _, rfl, .inl (.inl (s1 _ _ ht)), rfl, _, _, rfl, _, _, rfl, rfl, ?_⟩
      refine ⟨_, rfl, b1, rfl, ⟨_, .inl (.inl (s1 _ _ hbu))⟩, for_tup (K := K) (a := b1) (xs := us) (fun j σ H2 => ∃ (z5 z6 z7 : Option V) (kvs : List (NestedKey × Int)), σ = [some (.ref a), some (.ref d), some (.ref D), some (.ref b1), some (.int n), z5, z6, z7, y8, y9] ∧
        Same H H2 ∧ DN P w H2 D kvs ∧ Most dom (flm (l.take i) ++ r.take j) kvs ∧ ∀ y ∈ r.take j, unmark y.1 ∈ dom) ⟨_, _, _, kvs, rfl, s1, D1, by rw [List.take_zero, List.append_nil]; exact M1, fun _ h => nomatch h⟩ (fun j σ H2 _ ⟨_, _, _, _, _, s2, _⟩ => .inl (.inl (s2 _ _ hbu))) ?_ ?_⟩
      · rintro j x σ H2 hj ⟨z5, z6, z7, kvs, rfl, s2, D2, M2, in2⟩
        obtain ⟨k', m, t', b2, hl2, rfl, ht2, hb2⟩ := hPu.at hj
        have hmem2 := List.mem_of_getElem? hl2
        obtain ⟨pq, hk', hs⟩ := hsm.ms _ hmem2
        have hk' : k' = markP pq := hk'
        have hu := nk_mark (hk' ▸ hb2)
        have h40 : m.natAbs ≤ 40 := Nat.le_trans (tot_mem hmem2) hsm.tt
        have hum : unmark k' = pq := by rw [hk']; rfl
        obtain ⟨⟨kv0, e, re⟩, _, _⟩ := hD.mono s2
        refine ⟨t', _, rfl, .inl (.inl (s2 _ _ ht2)), rfl, _, _, rfl, _, _, rfl, rfl, ?_⟩
        by_cases hq : pq ∈ dom
        · obtain ⟨va, ga, _, _⟩ := Ents.get re hq
          refine ⟨_, rfl, _, rfl, d, some va, rfl, (by rw [← ga]; exact DGet.t e (key_pk (s2 _ _ hu))), _, rfl, iteF ?_⟩
          refine ⟨_, rfl, _, rfl, m, rfl, (by show 2 ≤ sizeLine; decide), fun u hu2 => ?_⟩
          generalize hH3 : upd H2 u _ = H3
          have s3 : Same H2 H3 := by rw [← hH3]; exact same_new hu2
          have eu : H3 u = some (.tup [.ref b2, .int (if m < 0 then 0 else 1)]) := by rw [← hH3]; exact upd_same
          clear hH3
          have nk : Nk H3 (keyP (k', m)) (.ref u) := .tup eu (.cons (Nk.mono (s2.trans s3) _ _ hb2) (.cons (.num _) .nil))
          have dp : (keyP (k', m)).depth ≤ 8 := by
            rw [hk']
            show NestedKey.depth (.tup [.tup [.num pq.1, .num pq.2], .num _]) ≤ 8
            simp [NestedKey.depth, NestedKey.depthAll]
          have D3 := D2.mono s3
          have hfew : kvs.length < 100000 := by
            have h1 := M2.few
            rw [List.length_append, List.length_take] at h1
            omega
          refine ⟨_, rfl, D, _, rfl, D3, _, rfl, _, keyP (k', m), u, 0, D3, rfl, nk, dp, rfl, ?_⟩
          refine ⟨_, rfl, m, rfl, _, _, rfl, ?_⟩
          refine ⟨_, rfl, _, rfl, D, kvs, keyP (k', m), u, _, rfl, rfl, D3, rfl, nk, dp, hfew, fun H4 D4 k4 _ => ?_⟩
          refine ⟨_, _, _, _, rfl, same_of_put (s2.trans s3) hDn k4, D4, ?_, ?_⟩
          · rw [take_more' hl2, ← List.append_assoc]
            exact M2.step D2.nd hk' hq h40 (by have ab : (if m < 0 then -m else m) = (m.natAbs : Int) := by split <;> omega
                                               rw [ab]; split <;> omega)
          · intro y hy
            rw [take_more' hl2] at hy
            rcases List.mem_append.mp hy with hy | hy
            · exact in2 y hy
            · rw [List.mem_singleton.mp hy]
              show unmark k' ∈ dom
              rw [hum]; exact hq
        · have gn := Ents.not re hq
          refine ⟨_, rfl, _, rfl, d, none, rfl, (by rw [← gn]; exact DGet.t e (key_pk (s2 _ _ hu))), _, rfl, iteT ?_⟩
          exact kE ⟨_, hall _ hmem2, by show unmark k' ∉ dom; rw [hum]; exact hq⟩ H2 s2
      · rintro σ H2 ⟨z5, z6, z7, kvs, rfl, s2, D2, M2, in2⟩
        rw [hPu.length, List.take_length] at M2 in2
        refine ⟨_, _, _, _, _, _, _, kvs, rfl, s2, D2, by rw [hfl]; exact M2, fun y hy => ?_⟩
        rw [hfl] at hy
        rcases List.mem_append.mp hy with hy | hy
        · exact in1 y hy
        · exact in2 y hy
    · rintro σ H1 ⟨y3, y4, y5, y6, y7, y8, y9, kvs, rfl, s1, D1, M1, in1⟩
      rw [hP.length, List.take_length] at M1 in1
      have kQ := kQ in1
      have htot := flm_tot hS
      obtain ⟨⟨es, hes, pes⟩, nd1, nm1, sm1⟩ := D1
      refine ⟨D, _, hes, True.intro, fun od => ?_⟩
      have km : ∀ c zs, H1 c = some (.tup zs) → (upd H1 D (.frz od (kdO P w D es))) c = some (.tup zs) := fun c zs e => by
        rw [upd_ne (ne_of e hes (fun z => nomatch z))]
        exact e
      have sF : Same H (upd H1 D (.frz od (kdO P w D es))) := same_put s1 hDn
      have hFr : (upd H1 D (.frz od (kdO P w D es))) D = some (.frz od (kdO P w D es)) := upd_same
      have pF : Paired (EntOk (upd H1 D (.frz od (kdO P w D es)))) kvs es := L2.Paired.mapP pes fun p q h => ⟨h.1, nkTup km _ _ h.2.1, h.2.2⟩
      generalize upd H1 D (.frz od (kdO P w D es)) = HF at *
      have nF : DNF P w HF D od kvs := ⟨es, hFr, pF, nm1⟩
      have pos : ∀ p ∈ kvs, 0 < partK f p.1 ∧ (partK f p.1).natAbs < 2 ^ 10 := fun p hp => by
        obtain ⟨q, j, e, hq, _⟩ := M1.shp p hp
        rw [e]
        exact part_at (hf q hq) j
      have htt := M1.tt
      refine ⟨_, rfl, D, od, kvs, rfl, nF, for_itemsN (fun i σ H' => ∃ (z5 z6 z7 z9 : Option V), σ = [some (.ref a), some (.ref d), some (.ref D), y3, y4, z5, z6, z7, some (.int (prodK f (kvs.take i))), z9] ∧ Same HF H') ⟨_, _, _, _, rfl, Same.refl _⟩
        (fun i σ H' _ ⟨_, _, _, _, _, s2⟩ => ⟨es, s2 _ _ hFr, L2.Paired.mapP pF fun _ _ h => h.mono s2, nm1⟩) ?_ ?_⟩
      · rintro i k n q T' σ H2 hkv ⟨z5, z6, z7, z9, rfl, s2⟩ hT' hq
        have hmem := List.mem_of_getElem? hkv
        obtain ⟨pq, j, ek, hpq, hj, n0, n40⟩ := M1.shp _ hmem
        have ek : k = keyQ pq j := ek
        subst ek
        have n0 : 0 ≤ n := n0
        have n40 : n ≤ 40 := n40
        have sT := same_new (o := .tup [.ref q, .int n]) hT'
        have eT : (upd H2 T' (.tup [.ref q, .int n])) T' = some (.tup [.ref q, .int n]) := upd_same
        generalize upd H2 T' (.tup [.ref q, .int n]) = H3 at *
        obtain ⟨b, hqb, hb⟩ := nk_keyQ hq
        obtain ⟨⟨kv0, e, re⟩, _, _⟩ := hD.mono ((sF.trans s2).trans sT)
        obtain ⟨va, ga, u, rfl, hua⟩ := Ents.get re hpq
        have hdg : DGet H3 d (.ref b) (some (.ref u)) := by rw [← ga]; exact DGet.t e (key_pk (sT _ _ hb))
        have bP : (partK f (keyQ pq j)).natAbs < 2 ^ 10 := (pos _ hmem).2
        have en : n = (n.natAbs : Int) := by omega
        have tk := tot_take kvs i
        have a1 : (prodK f (kvs.take i)).natAbs < 2 ^ 2010 := prodK_lt (fun p hp => (pos p (List.mem_of_mem_take hp)).2) (by omega)
        refine ⟨T', _, rfl, .inl (.inl eT), rfl, _, _, rfl, ⟨q, _, rfl, .inl (.inl (sT _ _ hqb)), rfl, _, _, rfl, _, _, rfl, rfl, ?_⟩⟩
        refine ⟨_, _, rfl, rfl, ?_⟩
        refine ⟨_, rfl, _, rfl, _, rfl, d, .ref u, rfl, hdg, _, rfl, u, _, _, _, rfl, rfl, .inl (.inl hua), atI_part (f pq) hj, ?_⟩
        refine ⟨_, rfl, partK f (keyQ pq j), n.natAbs, by rw [← en]; rfl, bP, by omega, _, _, rfl, rfl, mulW a1 (pow_lt (m := 2010) bP (by omega)) (by decide) (by decide) (by decide), ?_⟩
        rw [take_more' hkv, prodK_app, prodK_one]
        exact ⟨_, _, _, _, rfl, s2.trans sT⟩
      · rintro σ H2 ⟨z5, z6, z7, z9, rfl, s2⟩
        rw [List.take_length]
        refine ⟨s2 _ _ hFr, _, rfl, kQ _ _ (same_put (sF.trans s2) hDn) (prodK_pos fun p hp => (pos p hp).1) (prodK_lt (fun p hp => (pos p hp).2) (by omega)) fun z hz => ?_⟩
        refine prodK_dvd _ _ ?_ fun q hq => ?_
        · obtain ⟨r, hk, hR⟩ := hA.ok.rk _ hz
          rw [hk, unrow_row, List.map_map]
          have := List.Pairwise.imp (fun {x y} h => klt_ne h) hR.asc
          rw [List.pairwise_map] at this
          rw [List.nodup_iff_pairwise_ne, List.pairwise_map]
          exact List.Pairwise.imp (fun {x y} h (e : keyP x = keyP y) => h (by unfold keyP at e; injection e with e; injection e)) this
        · obtain ⟨y, hy, rfl⟩ := List.mem_map.mp hq
          exact M1.cov y (List.mem_flatMap.mpr ⟨z, hz, hy⟩)

/-! ### the worth -/
def topI (f : Int × Int → Int × Int) (B : Int) : List (NestedKey × Int) → Int
  | [] => 0
  | z :: l => z.2 * above f (unrow z.1) * B.fdiv (below f (unrow z.1)) + topI f B l
theorem topI_app (B : Int) : ∀ a b : List (NestedKey × Int), topI f B (a ++ b) = topI f B a + topI f B b
  | [], b => by show topI f B b = 0 + topI f B b; rw [Int.zero_add]
  | z :: a, b => by
    show z.2 * above f (unrow z.1) * B.fdiv (below f (unrow z.1)) + topI f B (a ++ b) = z.2 * above f (unrow z.1) * B.fdiv (below f (unrow z.1)) + topI f B a + topI f B b
    rw [topI_app B a b, Int.add_assoc]
def wR (f : Int × Int → Int × Int) (r : List (NestedKey × Int)) : Rat := (above f r : Rat) / (below f r : Rat)
def sumW (f : Int × Int → Int × Int) : List (NestedKey × Int) → Rat
  | [] => 0
  | z :: l => (z.2 : Rat) * wR f (unrow z.1) + sumW f l
theorem sumW_app : ∀ a b : List (NestedKey × Int), sumW f (a ++ b) = sumW f a + sumW f b
  | [], b => by show sumW f b = 0 + sumW f b; grind
  | z :: a, b => by
    show (z.2 : Rat) * wR f (unrow z.1) + sumW f (a ++ b) = (z.2 : Rat) * wR f (unrow z.1) + sumW f a + sumW f b
    rw [sumW_app a b]
    grind
theorem top_sum {B : Int} (hB : 0 < B) : ∀ {l : List (NestedKey × Int)}, (∀ z ∈ l, 0 < below f (unrow z.1) ∧ below f (unrow z.1) ∣ B) → (topI f B l : Rat) / (B : Rat) = sumW f l
  | [], _ => by show ((0 : Int) : Rat) / (B : Rat) = 0; rw [Rat.intCast_zero]; grind
  | z :: l, h => by
    obtain ⟨h1, c, hc⟩ := h z (List.mem_cons_self ..)
    have ih := top_sum hB (l := l) fun u hu => h u (List.mem_cons_of_mem _ hu)
    have hfd : B.fdiv (below f (unrow z.1)) = c := by
      rw [Int.fdiv_eq_ediv_of_nonneg _ (by omega), hc, Int.mul_ediv_cancel_left _ (by omega)]
    show ((z.2 * above f (unrow z.1) * B.fdiv (below f (unrow z.1)) + topI f B l : Int) : Rat) / (B : Rat) = (z.2 : Rat) * wR f (unrow z.1) + sumW f l
    rw [← ih, hfd, Rat.intCast_add, Rat.intCast_mul, Rat.intCast_mul]
    have n1 : (below f (unrow z.1) : Rat) ≠ 0 := cast_ne (by omega)
    have n2 : (B : Rat) ≠ 0 := cast_ne (by omega)
    have e : (B : Rat) = (below f (unrow z.1) : Rat) * (c : Rat) := by rw [← Rat.intCast_mul, ← hc]
    unfold wR
    generalize (B : Rat) = b at *
    generalize (below f (unrow z.1) : Rat) = u at *
    generalize (above f (unrow z.1) : Rat) = v at *
    generalize (c : Rat) = c' at *
    generalize (z.2 : Rat) = z' at *
    generalize (topI f B l : Rat) = t' at *
    have n3 : c' ≠ 0 := fun z => n2 (by rw [e, z]; grind)
    subst e
    grind
theorem row_of {dom : List (Int × Int)} {l : List (NestedKey × Int)} (hS : ∀ z ∈ l, SmR (unrow z.1)) (hin : ∀ y ∈ flm l, unmark y.1 ∈ dom) {z : NestedKey × Int} (hz : z ∈ l) : RwM dom (unrow z.1) where
  mq y hy := by
    obtain ⟨q, e, hs⟩ := (hS z hz).ms y hy
    refine ⟨q, e, hs, ?_⟩
    have := hin y (List.mem_flatMap.mpr ⟨z, hz, hy⟩)
    rw [e] at this
    exact this
  tt := (hS z hz).tt
theorem below_all {dom : List (Int × Int)} (hf : ∀ q ∈ dom, F2 10 7 (f q)) {r : List (NestedKey × Int)} (h : RwM dom r) : 0 < below f r ∧ (below f r).natAbs < 2 ^ 401 := by
  have := below_lt hf h r.length
  rw [List.take_length] at this
  exact this
theorem above_all {dom : List (Int × Int)} (hf : ∀ q ∈ dom, F2 10 7 (f q)) {r : List (NestedKey × Int)} (h : RwM dom r) : 0 < above f r ∧ (above f r).natAbs < 2 ^ 401 := by
  have := above_lt hf h r.length
  rw [List.take_length] at this
  exact this
def sp_worth (K : PySem.W.Frag) (C : Addr) : Sp := fun vs H Q E => ∃ (a d : Addr) (l : List (NestedKey × Int)) (dom : List (Int × Int)) (f : Int × Int → Int × Int), vs = [.ref a, .ref d] ∧ SumAt H a l ∧ (∀ z ∈ l, SmR (unrow z.1)) ∧ l.length ≤ 5 ∧ FD K H d dom f ∧ (∀ q ∈ dom, F2 10 7 (f q)) ∧
  ((∃ y ∈ flm l, unmark y.1 ∉ dom) → ∀ H', Same H H' → E (.ref C) none H') ∧
  ((∀ y ∈ flm l, unmark y.1 ∈ dom) → ∀ H' v, Same H H' → PrAt K H' v (frq (sumW f l)) → (frq (sumW f l)).2.natAbs < 2 ^ 2010 → Q v H')
theorem ok_worth (T : Env K mg) : FnOk P w K mg base (L2.CX P w) 3 T.a_worth T.fd_worth ["one", "lengths"] (sp_worth K T.C_NoLetter) := by
  refine T.F_worth.okX sc_worth (fun vs H Q E h => ?_) (fun cdv A outer s H vs Q E hr h => ?_)
  · obtain ⟨a, d, _, _, _, rfl, _⟩ := h
    rfl
  · obtain ⟨a, d, l, dom, f, rfl, hA, hS, h5, hD, hf, kE, kQ⟩ := h
    obtain ⟨xs, ha, hP⟩ := hA.ex
    refine ⟨_, (pss_cons (ps_set (i := 2) sc_worth.nd rfl (.inl rfl) (pe_callS (ok_shared_bottom T) (hr.mono (by decide)) (by rfl) T.g_shared_bottom T.F_shared_bottom.kp T.b_shared_bottom (fun σ => passAt (takes_of rfl rfl rfl rfl) σ) (pa_cons (pv 0) (pa_cons (pv 1) pa_nil))))
 (pss_cons (ps_set (i := 3) sc_worth.nd rfl (.inl rfl) pe_int)
 (pss_cons (ps_for (passes_of rfl) rfl (pi_list (pv 0)) (pg_tup rfl (pgs_cons (pg_name (i := 4) sc_worth.nd rfl (.inl rfl)) (pgs_cons (pg_name (i := 5) sc_worth.nd rfl (.inl rfl)) pgs_nil)))
 (pss_cons (ps_asg (pe_call (ok_row_worth T) (hr.mono (by decide)) (by rfl) T.g_row_worth T.F_row_worth.kp T.b_row_worth .nil pass0 (pa_cons (pv 4) (pa_cons (pv 1) pa_nil))) (pg_tup rfl (pgs_cons (pg_name (i := 6) sc_worth.nd rfl (.inl rfl)) (pgs_cons (pg_name (i := 7) sc_worth.nd rfl (.inl rfl)) pgs_nil))))
 (pss_one (ps_aug (i := 3) sc_worth.nd rfl (.inl rfl) (pe_op op_mulU (pe_op op_mulU (pv 5) (pv 6)) (pe_op op_fdivX (pv 2) (pv 7))) ip_add))))
 (pss_one (ps_ret (pe_callS (ok_lowest T) (hr.mono (by decide)) (by rfl) T.g_lowest T.F_lowest.kp T.b_lowest (fun σ => passAt (takes_of rfl rfl rfl rfl) σ) (pa_cons (pv 3) (pa_cons (pv 2) pa_nil)))))))), ?_⟩
    refine ⟨_, rfl, _, rfl, a, d, l, dom, f, rfl, hA, hS, h5, hD, hf, kE, fun hin H1 B s1 hB0 hB hdv => ?_⟩
    have kQ := kQ hin
    refine ⟨_, rfl, a, rfl, ⟨_, .inl (.inl (s1 _ _ ha))⟩, for_list (K := K) (a := a) (xs := xs) (fun i σ H' => ∃ (y4 y5 y6 y7 : Option V), σ = [some (.ref a), some (.ref d), some (.int B), some (.int (topI f B (l.take i))), y4, y5, y6, y7] ∧ Same H H') ⟨_, _, _, _, rfl, s1⟩ (fun i σ H' _ ⟨_, _, _, _, _, s1⟩ => .inl (.inl (s1 _ _ ha))) ?_ ?_⟩
    · rintro i x σ H2 hi ⟨y4, y5, y6, y7, rfl, s2⟩
      obtain ⟨k, n, t, b1, hl', rfl, ht, hb1⟩ := hP.at hi
      have hmem := List.mem_of_getElem? hl'
      obtain ⟨r, hk, hR⟩ := hA.ok.rk _ hmem
      have hk : k = rowK r := hk
      subst hk
      have hbd : n.natAbs ≤ 40 := hA.bd _ hmem
      have hrw : RwM dom r := by have := row_of hS hin hmem; rw [show unrow ((rowK r, n) : NestedKey × Int).1 = r from unrow_row r] at this; exact this
      obtain ⟨us, hbu, hPu⟩ := nk_row hR.rk hb1
      refine ⟨t, _, rfl, .inl (.inl (s2 _ _ ht)), rfl, _, _, rfl, _, _, rfl, rfl, ?_⟩
      refine ⟨_, rfl, _, rfl, b1, d, us, r, dom, f, rfl, s2 _ _ hbu, hPu.mono s2, hrw, hD.mono s2, hf, fun H3 u s3 hu => ?_⟩
      have bA := above_all hf hrw
      have bB := below_all hf hrw
      have bL : (below f r).natAbs.log2 < 9000 := log_small (by decide) bB.2 (by decide)
      have hq1 : (n * above f r).natAbs < 2 ^ 410 := lt_mul (a := 6) (b := 401) (by omega) bA.2 (by decide)
      have hq2 : (B.fdiv (below f r)).natAbs < 2 ^ 2010 := by
        rw [Int.fdiv_eq_ediv_of_nonneg _ (by omega)]
        exact Nat.lt_of_le_of_lt (Int.natAbs_ediv_le_natAbs _ _) hB
      refine ⟨u, _, rfl, .inl (.inl hu), rfl, _, _, rfl, _, _, rfl, rfl, ?_⟩
      refine ⟨_, rfl, _, rfl, _, rfl, _, _, rfl, rfl, mulL (by omega) (by omega), _, rfl, _, rfl, _, _, rfl, rfl, ⟨by omega, bL⟩, _, _, rfl, rfl, mulW hq1 hq2 (by decide) (by decide) (by decide), _, _, rfl, rfl, ?_⟩
      have et : topI f B (l.take (i + 1)) = topI f B (l.take i) + n * above f r * B.fdiv (below f r) := by
        rw [take_more' hl', topI_app]
        show topI f B (l.take i) + (n * above f (unrow (rowK r)) * B.fdiv (below f (unrow (rowK r))) + 0) = _
        rw [unrow_row, Int.add_zero]
      rw [et]
      exact ⟨_, _, _, _, rfl, s2.trans s3⟩
    · rintro σ H2 ⟨y4, y5, y6, y7, rfl, s2⟩
      rw [hP.length, List.take_length]
      refine ⟨_, rfl, _, rfl, _, _, rfl, log_small (by decide) hB (by decide), fun z => absurd z (by omega), fun _ p hp => ?_⟩
      have e : lowI (topI f B l) B = frq (sumW f l) := by
        rw [low_div (by omega), top_sum hB0 fun z hz => ⟨(below_all hf (row_of hS hin hz)).1, hdv z hz⟩]
      have eb := (lowI_ok (t := topI f B l) (b := B) (by omega)).2.2.1
      rw [e] at eb ⊢
      exact kQ _ _ (s2.trans (same_new hp)) ⟨p, rfl, upd_same⟩ (Nat.lt_of_le_of_lt eb hB)
/-! ### the law's own worth -/
def st (x : Int × Int) (n : Int) (m : Nat) : Rat := if n < 0 then ((x.2 ^ m : Int) : Rat) / ((x.1 ^ m : Int) : Rat) else ((x.1 ^ m : Int) : Rat) / ((x.2 ^ m : Int) : Rat)
theorem st_zero (x : Int × Int) (n : Int) : st x n 0 = 1 := by
  unfold st
  rw [Int.pow_zero, Int.pow_zero]
  split <;> (show ((1 : Int) : Rat) / ((1 : Int) : Rat) = 1; rw [Rat.intCast_one]; grind)
theorem st_up {b t : Nat} {x : Int × Int} (h : F2 t b x) {n : Int} (hn : 0 < n) (m : Nat) : st x n (m + 1) = st x n m * vq x := by
  have n1 : ((x.2 ^ m : Int) : Rat) ≠ 0 := cast_ne (Int.ne_of_gt (Int.pow_pos h.low.pos))
  have n2 : (x.2 : Rat) ≠ 0 := cast_ne (by have := h.low.pos; omega)
  unfold st vq
  rw [if_neg (by omega), if_neg (by omega), Int.pow_succ, Int.pow_succ, Rat.intCast_mul, Rat.intCast_mul]
  grind
theorem st_down {b t : Nat} {x : Int × Int} (h : F2 t b x) {n : Int} (hn : n < 0) (m : Nat) : st x n (m + 1) = st x n m / vq x := by
  have n1 : ((x.1 ^ m : Int) : Rat) ≠ 0 := cast_ne (Int.ne_of_gt (Int.pow_pos h.top))
  have n2 : (x.2 : Rat) ≠ 0 := cast_ne (by have := h.low.pos; omega)
  have n3 : (x.1 : Rat) ≠ 0 := cast_ne (by have := h.top; omega)
  unfold st vq
  rw [if_pos hn, if_pos hn, Int.pow_succ, Int.pow_succ, Rat.intCast_mul, Rat.intCast_mul]
  grind
theorem wR_more {dom : List (Int × Int)} (hf : ∀ q ∈ dom, F2 10 7 (f q)) {r : List (NestedKey × Int)} (h : RwM dom r) {j : Nat} {pq : Int × Int} {n : Int} (hl : r[j]? = some (markP pq, n)) (hq : pq ∈ dom) : wR f (r.take (j + 1)) = wR f (r.take j) * st (f pq) n n.natAbs := by
  have h1 := (below_lt hf h j).1
  have hF := hf pq hq
  have n1 : (below f (r.take j) : Rat) ≠ 0 := cast_ne (by omega)
  have n2 : (((f pq).1 ^ n.natAbs : Int) : Rat) ≠ 0 := cast_ne (Int.ne_of_gt (Int.pow_pos hF.top))
  have n3 : (((f pq).2 ^ n.natAbs : Int) : Rat) ≠ 0 := cast_ne (Int.ne_of_gt (Int.pow_pos hF.low.pos))
  unfold wR
  rw [above_more hl, below_more hl, Rat.intCast_mul, Rat.intCast_mul]
  have eP : partK f (keyP (markP pq, n)) = if n < 0 then (f pq).1 else (f pq).2 := by
    unfold keyP
    show (if (if n < 0 then (0 : Int) else 1) = 0 then (f pq).1 else (f pq).2) = _
    split <;> rename_i hn
    · rw [if_pos rfl]
    · rw [if_neg (by decide)]
  have eN : partK f (keyN (markP pq, n)) = if n < 0 then (f pq).2 else (f pq).1 := by
    unfold keyN
    show (if 1 - (if n < 0 then (0 : Int) else 1) = 0 then (f pq).1 else (f pq).2) = _
    split <;> rename_i hn
    · rw [if_neg (by decide)]
    · rw [if_pos (by decide)]
  rw [eP, eN]
  unfold st
  show _ * ((((if n < 0 then (f pq).2 else (f pq).1) ^ n.natAbs : Int)) : Rat) / (_ * ((((if n < 0 then (f pq).1 else (f pq).2) ^ n.natAbs : Int)) : Rat)) = _
  by_cases hn : n < 0
  · rw [if_pos hn, if_pos hn, if_pos hn]
    grind
  · rw [if_neg hn, if_neg hn, if_neg hn]
    grind
theorem frq_int (n : Int) : frq (n : Rat) = (n, 1) := by
  refine vq_inj (frq_low _) ⟨(by show (0 : Int) < 1; decide), (by show Nat.gcd n.natAbs 1 = 1; exact Nat.gcd_one_right _)⟩ ?_
  rw [vq_frq]
  show (n : Rat) = (n : Rat) / ((1 : Int) : Rat)
  rw [Rat.intCast_one]
  grind
theorem bq_int {n : Int} (h : n.natAbs ≤ 40) : Bq 7 1 (n : Rat) := ⟨by rw [frq_int]; show n.natAbs < 2 ^ 7; omega, by rw [frq_int]; show (1 : Int).natAbs < 2 ^ 1; decide⟩
def sp_worthL (K : PySem.W.Frag) : Sp := fun vs H Q _ => ∃ (a d : Addr) (l : List (NestedKey × Int)) (dom : List (Int × Int)) (f : Int × Int → Int × Int), vs = [.ref a, .ref d] ∧ SumAt H a l ∧ (∀ z ∈ l, SmR (unrow z.1)) ∧ l.length ≤ 5 ∧ FD K H d dom f ∧ (∀ q ∈ dom, F2 10 7 (f q)) ∧
  (∀ y ∈ flm l, unmark y.1 ∈ dom) ∧ ∀ H' v, Same H H' → PrAt K H' v (frq (sumW f l)) → Q v H'
theorem ok__law_worth (T : Env K mg) : FnOk P w K mg base CX0 3 T.a__law_worth T.fd__law_worth ["_law_one", "_law_lengths"] (sp_worthL K) := by
  refine T.F__law_worth.ok sc__law_worth (fun vs H Q E h => ?_) (fun cdv A outer s H vs Q E hr h => ?_)
  · obtain ⟨a, d, _, _, _, rfl, _⟩ := h
    rfl
  · obtain ⟨a, d, l, dom, f, rfl, hA, hS, h5, hD, hf, hin, kQ⟩ := h
    obtain ⟨xs, ha, hP⟩ := hA.ex
    refine ⟨_, (pss_cons (ps_set (i := 2) sc__law_worth.nd rfl (.inl rfl) (pe_tup (pa_cons pe_int (pa_cons pe_int pa_nil))))
 (pss_cons (ps_for PassesOwn.never rfl (pi_list (pv 0)) (pg_tup rfl (pgs_cons (pg_name (i := 3) sc__law_worth.nd rfl (.inl rfl)) (pgs_cons (pg_name (i := 4) sc__law_worth.nd rfl (.inl rfl)) pgs_nil)))
 (pss_cons (ps_set (i := 5) sc__law_worth.nd rfl (.inl rfl) (pe_tup (pa_cons (pv 4) (pa_cons pe_int pa_nil))))
 (pss_cons (ps_for PassesOwn.never rfl (pi_tup (pv 3)) (pg_tup rfl (pgs_cons (pg_name (i := 6) sc__law_worth.nd rfl (.inl rfl)) (pgs_cons (pg_name (i := 7) sc__law_worth.nd rfl (.inl rfl)) pgs_nil)))
 (pss_one (ps_for PassesOwn.never rfl (pi_range1 (by rfl) T.m_range (pa_cons (pe_callB call_abs (by rfl) T.m_abs (by decide +kernel) (pa_cons (pv 7) pa_nil)) pa_nil)) (pg_name (i := 8) sc__law_worth.nd rfl (.inl rfl))
 (pss_one (ps_if (pt_cmpR op_gt (pv 7) pe_int (nomark _))
 (pss_one (ps_set (i := 5) sc__law_worth.nd rfl (.inl rfl) (pe_call (ok__law_mulQ T) (hr.mono (by decide)) (by rfl) T.g__law_mul T.F__law_mul.kp T.b__law_mul .nil pass0 (pa_cons (pv 5) (pa_cons (pe_dget (hu_of hr) (pv 1) (pv 6) (fun _ _ => rfl)) pa_nil)))))
 (pss_one (ps_set (i := 5) sc__law_worth.nd rfl (.inl rfl) (pe_call (ok__law_divQ T) (hr.mono (by decide)) (by rfl) T.g__law_div T.F__law_div.kp T.b__law_div .nil pass0 (pa_cons (pv 5) (pa_cons (pe_dget (hu_of hr) (pv 1) (pv 6) (fun _ _ => rfl)) pa_nil))))))))))
 (pss_one (ps_set (i := 2) sc__law_worth.nd rfl (.inl rfl) (pe_call (ok__law_addQ T) (hr.mono (by decide)) (by rfl) T.g__law_add T.F__law_add.kp T.b__law_add .nil pass0 (pa_cons (pv 2) (pa_cons (pv 5) pa_nil))))))))
 (pss_one (ps_ret (pv 2))))), ?_⟩
    refine ⟨(by show 2 ≤ sizeLine; decide), fun v0 hv0 => ?_⟩
    generalize hH0 : upd H v0 _ = H0
    have s0 : Same H H0 := by rw [← hH0]; exact same_new hv0
    have e0 : PrAt K H0 (.ref v0) (frq (sumW f [])) := ⟨v0, rfl, by rw [← hH0]; exact upd_same⟩
    clear hH0
    refine ⟨_, rfl, a, rfl, ⟨_, .inl (.inl (s0 _ _ ha))⟩, for_list (K := K) (a := a) (xs := xs) (fun i σ H' => ∃ (v : V) (y3 y4 y5 y6 y7 y8 : Option V), σ = [some (.ref a), some (.ref d), some v, y3, y4, y5, y6, y7, y8] ∧ Same H H' ∧ PrAt K H' v (frq (sumW f (l.take i))) ∧
      Bq (420 * (i + 1)) (401 * i + 1) (sumW f (l.take i))) ⟨_, _, _, _, _, _, _, rfl, s0, e0, Bq.zero.more (by decide) (by decide)⟩ (fun i σ H' _ ⟨_, _, _, _, _, _, _, _, s1, _⟩ => .inl (.inl (s1 _ _ ha))) ?_ ?_⟩
    · rintro i x σ H1 hi ⟨v, y3, y4, y5, y6, y7, y8, rfl, s1, hv, bv⟩
      obtain ⟨k, n, t, b1, hl', rfl, ht, hb1⟩ := hP.at hi
      have hmem := List.mem_of_getElem? hl'
      obtain ⟨r, hk, hR⟩ := hA.ok.rk _ hmem
      have hk : k = rowK r := hk
      subst hk
      have hbd : n.natAbs ≤ 40 := hA.bd _ hmem
      have hrw : RwM dom r := by have := row_of hS hin hmem; rw [show unrow ((rowK r, n) : NestedKey × Int).1 = r from unrow_row r] at this; exact this
      have hil : i < 5 := by have := (List.getElem?_eq_some_iff.mp hl').1; omega
      obtain ⟨us, hbu, hPu⟩ := nk_row hR.rk hb1
      refine ⟨t, _, rfl, .inl (.inl (s1 _ _ ht)), rfl, _, _, rfl, _, _, rfl, rfl, ?_⟩
      refine ⟨_, rfl, (by show 2 ≤ sizeLine; decide), fun v1 hv1 => ?_⟩
      generalize hH2 : upd H1 v1 _ = H2
      have s2 : Same H1 H2 := by rw [← hH2]; exact same_new hv1
      have e2 : PrAt K H2 (.ref v1) (frq (n : Rat)) := ⟨v1, rfl, by rw [← hH2, frq_int]; exact upd_same⟩
      clear hH2
      have s12 := s1.trans s2
      have w0 : (n : Rat) * wR f (r.take 0) = (n : Rat) := by
        rw [List.take_zero]
        show (n : Rat) * (((1 : Int) : Rat) / ((1 : Int) : Rat)) = _
        rw [Rat.intCast_one]
        grind
      refine ⟨_, rfl, b1, rfl, ⟨_, .inl (.inl (s12 _ _ hbu))⟩, for_tup (K := K) (a := b1) (xs := us) (fun j σ H' => ∃ (v' : V) (z6 z7 z8 : Option V), σ = [some (.ref a), some (.ref d), some v, some (.ref b1), some (.int n), some v', z6, z7, z8] ∧ Same H2 H' ∧ PrAt K H' v' (frq ((n : Rat) * wR f (r.take j))) ∧
        Bq (7 + 10 * tot (r.take j)) (1 + 10 * tot (r.take j)) ((n : Rat) * wR f (r.take j))) ⟨_, _, _, _, rfl, Same.refl _, by rw [w0]; exact e2, by rw [w0]; exact bq_int hbd⟩ (fun j σ H' _ ⟨_, _, _, _, _, s3, _⟩ => .inl (.inl (s3 _ _ (s12 _ _ hbu)))) ?_ ?_⟩
      · rintro j x σ H3 hj ⟨v', z6, z7, z8, rfl, s3, hv', bv'⟩
        obtain ⟨k', m, t', b2, hl2, rfl, ht2, hb2⟩ := hPu.at hj
        have hmem2 := List.mem_of_getElem? hl2
        obtain ⟨pq, hk', hs, hq⟩ := hrw.mq _ hmem2
        have hk' : k' = markP pq := hk'
        subst hk'
        have hu := nk_mark hb2
        have hF := hf pq hq
        have h40 : tot (r.take j) + m.natAbs ≤ 40 := by
          have h1 := tot_take r (j + 1)
          rw [take_more' hl2, tot_app, tot_cons] at h1
          have h2 := hrw.tt
          have h3 : tot ([] : List (NestedKey × Int)) = 0 := rfl
          have h1 : tot (r.take j) + (m.natAbs + tot []) ≤ tot r := h1
          omega
        have ab : (if m < 0 then -m else m) = (m.natAbs : Int) := by split <;> omega
        have s13 := s12.trans s3
        refine ⟨t', _, rfl, .inl (.inl (s13 _ _ ht2)), rfl, _, _, rfl, _, _, rfl, rfl, ?_⟩
        refine ⟨_, rfl, m, rfl, ?_⟩
        rw [ab]
        refine ⟨_, rfl, by omega, by omega, for_range (lo := 0) (n := m.natAbs) (fun c σ H' => ∃ (v' : V) (z8 : Option V), σ = [some (.ref a), some (.ref d), some v, some (.ref b1), some (.int n), some v', some (.ref b2), some (.int m), z8] ∧ Same H3 H' ∧ PrAt K H' v' (frq ((n : Rat) * wR f (r.take j) * st (f pq) m c)) ∧
          Bq (7 + 10 * (tot (r.take j) + c)) (1 + 10 * (tot (r.take j) + c)) ((n : Rat) * wR f (r.take j) * st (f pq) m c)) ⟨_, _, rfl, Same.refl _, ?_, ?_⟩ ?_ ?_⟩
        · rw [st_zero, Rat.mul_one]; exact hv'
        · rw [st_zero, Rat.mul_one]; exact bv'
        · rintro c σ H4 hc ⟨v4, z8, rfl, s4, hv4, bv4⟩
          obtain ⟨⟨kv0, e, re⟩, _, _⟩ := hD.mono (s13.trans s4)
          obtain ⟨va, ga, u, rfl, hua⟩ := Ents.get re hq
          have hdg : DGet H4 d (.ref b2) (some (.ref u)) := by rw [← ga]; exact DGet.t e (key_pk ((s13.trans s4) _ _ hu))
          have hpu : PrAt K H4 (.ref u) (frq (vq (f pq))) := by rw [frq_vq hF.low]; exact ⟨u, rfl, hua⟩
          have bf : Bq 10 7 (vq (f pq)) := hF.bq
          have nz : vq (f pq) ≠ 0 := vq_ne (hF.frac (k := 10) (by decide) (by decide))
          refine ⟨_, rfl, _, _, rfl, rfl, _, rfl, ite2 (fun hp => ?_) (fun hp => ?_)⟩
          · have hp : 0 < m := of_decide_eq_true hp
            have es := st_up hF hp c
            refine ⟨_, rfl, _, rfl, _, rfl, d, .ref u, rfl, hdg, _, _, _, _, rfl, hv4, hpu, bv4.more (by omega) (by omega), bf.more (by decide) (by decide), True.intro, fun H5 v5 s5 hv5 => ?_⟩
            refine ⟨v5, _, rfl, s4.trans s5, ?_, ?_⟩
            · rw [es, ← Rat.mul_assoc]; exact hv5
            · rw [es, ← Rat.mul_assoc]; exact (bv4.mul bf).more (by omega) (by omega)
          · have hp : m < 0 := by have h1 : ¬ 0 < m := nd hp; omega
            have es := st_down hF hp c
            have ed : (n : Rat) * wR f (r.take j) * (st (f pq) m c / vq (f pq)) = (n : Rat) * wR f (r.take j) * st (f pq) m c / vq (f pq) := by grind
            refine ⟨_, rfl, _, rfl, _, rfl, d, .ref u, rfl, hdg, _, _, _, _, rfl, hv4, hpu, bv4.more (by omega) (by omega), bf.more (by decide) (by decide), ⟨nz, bf.more (by decide) (by decide)⟩, fun H5 v5 s5 hv5 => ?_⟩
            refine ⟨v5, _, rfl, s4.trans s5, ?_, ?_⟩
            · rw [es, ed]; exact hv5
            · rw [es, ed]; exact (bv4.div bf nz).more (by omega) (by omega)
        · rintro σ H4 ⟨v4, z8, rfl, s4, hv4, bv4⟩
          have ew := wR_more hf hrw hl2 hq
          have et : tot (r.take (j + 1)) = tot (r.take j) + m.natAbs := by rw [take_more' hl2, tot_app, tot_cons]; rfl
          refine ⟨v4, _, _, _, rfl, s3.trans s4, ?_, ?_⟩
          · rw [ew, ← Rat.mul_assoc]; exact hv4
          · rw [ew, ← Rat.mul_assoc, et]; exact bv4
      · rintro σ H3 ⟨v', z6, z7, z8, rfl, s3, hv', bv'⟩
        rw [hPu.length, List.take_length] at hv' bv'
        have htt := hrw.tt
        have es : sumW f (l.take (i + 1)) = sumW f (l.take i) + (n : Rat) * wR f r := by
          rw [take_more' hl', sumW_app]
          show _ + ((n : Rat) * wR f (unrow (rowK r)) + 0) = _
          rw [unrow_row]
          grind
        refine ⟨_, rfl, _, rfl, _, _, _, _, rfl, hv.mono (s2.trans s3), hv', bv.more (by omega) (by omega), bv'.more (by omega) (by omega), True.intro, fun H4 v4 s4 hv4 => ?_⟩
        refine ⟨v4, _, _, _, _, _, _, rfl, ((s12.trans s3).trans s4), ?_, ?_⟩
        · rw [es]; exact hv4
        · rw [es]
          exact (bv.add (bv'.more (t' := 410) (b' := 401) (by omega) (by omega)) (m := 420 * (i + 1) + 401) (by omega) (by omega)).more (by omega) (by omega)
    · rintro σ H1 ⟨v, y3, y4, y5, y6, y7, y8, rfl, s1, hv, bv⟩
      rw [hP.length, List.take_length] at hv
      exact ⟨_, rfl, kQ _ _ s1 hv⟩

/-! ### a list, held against an empty one -/
def rEqNil : R2 := fun x y H Q => ∃ a b xs, x = .ref a ∧ y = .ref b ∧ H a = some (.lst xs) ∧ H b = some (.lst []) ∧ Q (.bl xs.isEmpty) H
theorem op_eqNil {X : Cx} (hu : X.A.units + 64 < cLine) : OpR X (compareOp .Eq) rEqNil := by
  intro pins s σ H x y v u Q I rx ry h
  obtain ⟨a, b, xs, rfl, rfl, ha, hb, q⟩ := h
  cases rx
  cases ry
  obtain ⟨_, us, n, v1, l1, g1⟩ := I.lstM ha
  obtain ⟨_, ws, n2, v2, l2, g2⟩ := I.lstM hb
  have w0 : ws = [] := List.eq_nil_of_length_eq_zero l2.symm
  subst w0
  have i1 : s.heap.IsList a us.toArray := ⟨_, g1, rfl, n, rfl⟩
  have i2 : s.heap.IsList b #[] := ⟨_, g2, rfl, n2, rfl⟩
  by_cases e : us = []
  · subst e
    have x0 : xs = [] := List.eq_nil_of_length_eq_zero l1
    subst x0
    exact PySem.SeqAt.RcAt.lists (e := fun _ => true) i1 i2 rfl (by omega) (fun j h1 _ => absurd h1 (Nat.not_lt_zero j)) _ _ _ _ ⟨.bl true, H, I, rfl, q⟩
  · have x1 : xs.isEmpty = false := by
      cases xs with
      | nil => exact absurd (List.eq_nil_of_length_eq_zero l1.symm) e
      | cons => rfl
    rw [x1] at q
    refine PySem.SeqAt.RcAt.lists_lengths i1 i2 ?_ (by omega) _ _ _ _ ⟨.bl false, H, I, rfl, q⟩
    cases us with
    | nil => exact absurd rfl e
    | cons => rfl
theorem op_neNil {X : Cx} (hu : X.A.units + 64 < cLine) : OpR X (compareOp .NotEq) (fun x y H Q => ∃ a b xs, x = .ref a ∧ y = .ref b ∧ H a = some (.lst xs) ∧ H b = some (.lst []) ∧ Q (.bl (!xs.isEmpty)) H) := by
  intro pins s σ H x y v u Q I rx ry h
  obtain ⟨a, b, xs, rfl, rfl, ha, hb, q⟩ := h
  cases rx
  cases ry
  obtain ⟨_, us, n, v1, l1, g1⟩ := I.lstM ha
  obtain ⟨_, ws, n2, v2, l2, g2⟩ := I.lstM hb
  have w0 : ws = [] := List.eq_nil_of_length_eq_zero l2.symm
  subst w0
  have i1 : s.heap.IsList a us.toArray := ⟨_, g1, rfl, n, rfl⟩
  have i2 : s.heap.IsList b #[] := ⟨_, g2, rfl, n2, rfl⟩
  by_cases e : us = []
  · subst e
    have x0 : xs = [] := List.eq_nil_of_length_eq_zero l1
    subst x0
    exact PySem.SeqAt.RcNeAt.lists (e := fun _ => true) i1 i2 rfl (by omega) (fun j h1 _ => absurd h1 (Nat.not_lt_zero j)) _ _ _ _ ⟨.bl false, H, I, rfl, q⟩
  · have x1 : xs.isEmpty = false := by
      cases xs with
      | nil => exact absurd (List.eq_nil_of_length_eq_zero l1.symm) e
      | cons => rfl
    rw [x1] at q
    refine PySem.SeqAt.RcNeAt.lists_lengths i1 i2 ?_ (by omega) _ _ _ _ ⟨.bl true, H, I, rfl, q⟩
    cases us with
    | nil => exact absurd rfl e
    | cons => rfl

/-! ### d.pop(k), tuples as keys: it is there -/
section
variable {X : Cx} {P : Program} {w : World}
theorem meetsPop1 {κ : Type} [DecidableEq κ] {knd : HeapKind P w κ} {d b : Addr} {k : κ} (hd : (d == sysModules) = false) :
    MeetsIn P w (Builtin.«dict.pop» ⟨[.ref d, .ref b], []⟩) (fun A R s => ∃ xs p, knd.room A.in1 ∧ knd.is s.heap k b ∧ s.heap.DictOfH knd d xs ∧ xs.length ≤ sizeLine ∧ PySem.atKey xs k = some p ∧
      ∀ h' tk, h'.DictOfH knd d (DT.dropH xs k) → Heap.SameBut d s.heap h' → R (.ok (.ret p.2)) { s with heap := h', toks := tk }) :=
  .of_wp fun A R s ⟨xs, p0, hu, hkey, hm, hsz, hat, hsome⟩ => by
    obtain ⟨o, es, ep, ho, hc, hdat, he, his, hn⟩ := id hm
    have hes : es.size = xs.length := size_of_entries he
    have hpart : (keyPart (Value.ref b)).isSome = false := rfl
    unfold Builtin.«dict.pop»
    refine wpAny_bind ?_
    unfold Builtin.Dict.keyAndDefault
    refine wpAny_bind (wpAny_notOrdered_dict hm.typeIs ?_)
    show wpAny _ _ (pure (d, Value.ref b, none)) _ _ s
    refine wpAny_pure ?_
    simp only [hpart, Bool.false_eq_true, if_false]
    refine wpAny_bind (wpAny_dictEntries ho hdat (wpAny_bind (wpAny_pure ?_)))
    cases hem : es.isEmpty with
    | true =>
      have h0 : xs = [] := by
        have z : es.size = 0 := by simpa using hem
        exact List.length_eq_zero_iff.mp (by omega)
      rw [h0] at hat
      exact nomatch hat
    | false =>
      simp only [Bool.false_eq_true, if_false]
      refine wpAny_bind (DT.takeH hu hkey hm hsz (fun hno => ?_) fun p e hp hev h' hm' hs' => ?_)
      · rw [hat] at hno
        exact nomatch hno
      · simp only [Option.isNone_some, Bool.false_eq_true, if_false]
        rw [hat] at hp
        cases hp
        exact wpAny_bind (wpAny_letGo (wpAny_pure ⟨e.val, rfl, by rw [hev]; exact hsome h' _ hm' hs'⟩))
def rPop1T : V → List V → Hp → VK → Prop := fun x xs H Q => ∃ (a : Addr) (kvs : List (List L2.Key × V)) (k : List L2.Key) (b : Addr) (v : V), x = .ref a ∧ xs = [.ref b] ∧ H a = some (.dT kvs) ∧ H b = some (.tup (k.map kV)) ∧
  valV kvs k = some v ∧ Q v (upd H a (.dT (dropK kvs k)))
theorem mt_pop1T (hu : X.A.units + 1 < cLine) : MtR X "dict.pop" rPop1T := by
  intro pins s σ H x xs v us Q I rx rxs h
  obtain ⟨a, kvs, k, b, v0, rfl, rfl, ha, hb, ev, q1⟩ := h
  cases rx
  obtain ⟨u1, rfl, r1⟩ := vals1 rxs
  cases r1
  obtain ⟨z, hd, xs', rel, dd⟩ := dt_of I.hok ha
  have hz : xs'.length ≤ sizeLine := by rw [← Paired.length rel]; exact z
  have r := rel.val k
  rw [ev] at r
  obtain ⟨p, hp, rv⟩ : ∃ p, PySem.atKey xs' k = some p ∧ RelV v0 p.2 := by
    cases hp : PySem.atKey xs' k with
    | none =>
      rw [hp] at r
      exact (show False from r).elim
    | some p =>
      rw [hp] at r
      exact ⟨p, rfl, r⟩
  refine call_meetsIn PySem.F.slot_dict_pop dd.typeIs PySem.F.entry_dict_pop (PySem.F.args_dict_pop_2 _ _) (meetsPop1 (knd := tupleKind (mixKind X.prog X.w)) (k := k) hd)
    ⟨xs', p, tupleKind_room_in1 hu, key_of I.hok hb, dd, hz, hp, fun h' tk dd' hs => ?_⟩
  obtain ⟨o, es, ep, hq, h2, h3, h4, _, h5⟩ := dd'
  have I2 : Inv X pins σ (upd H a (.dT (dropK kvs k))) { s with heap := h', toks := tk } :=
    d_write I (by rw [ha]; exact True.intro) hs ⟨o, hq⟩ ⟨Nat.le_trans (dropK_le kvs k) z, hd, _, (L2.DX.KT_drop k rel).keeps (fun c ys ec => (by rw [upd_ne (ne_of ec ha (fun z => nomatch z))]; exact ec)), o, es, ep, hq, h2, h3, h4, h5⟩
  show EP X pins σ Q p.2 _
  exact ⟨v0, _, I2, rv, q1⟩
end

/-! ### == of two dicts whose keys are tuples -/
section
variable {X : Cx} {P : Program} {w : World}
theorem sameH {A : PySem.Around} {E : Value → Shared → Prop} {s : Shared} {κ : Type} [DecidableEq κ] {knd : HeapKind P w κ} {nm : String} {a b : Addr} {xa xb : List (κ × Addr × Value)} {e : Nat → Bool} {Q : Bool → Shared → Prop} (hu : knd.room A) (ha : (a == sysModules) = false) (hb : (b == sysModules) = false)
    (da : s.heap.DictOfH knd a xa) (db : s.heap.DictOfH knd b xb) (hl : xa.length = xb.length)
    (hits : ∀ i k p, xa[i]? = some (k, p) → ∃ (j : Nat) (q : Addr × Value), xb[j]? = some (k, q) ∧ SeqAt.EqAt A s p.2 q.2 (e i)) (h : Q ((List.range xa.length).all e) s) :
    wpAny (model P w) A (Builtin.Dict.samePairs nm a b) Q E s := by
  obtain ⟨oa, es, ep, hoa, _, hda, hea, hia, hna⟩ := da
  obtain ⟨ob, es', ep', hob, _, hdb, heb, hib, hnb⟩ := db
  have s1 : es.size = xa.length := size_of_entries hea
  have s2 : es'.size = xb.length := size_of_entries heb
  unfold Builtin.Dict.samePairs Builtin.Dict.showsAll
  rw [if_neg (show ¬ (a == sysModules) = true by rw [ha]; exact Bool.false_ne_true), if_neg (show ¬ (b == sysModules) = true by rw [hb]; exact Bool.false_ne_true)]
  refine wpAny_bind (wpAny_pure (wpAny_bind (wpAny_pure ?_)))
  refine wpAny_bind (wpAny_dictEntries hoa hda ?_)
  dsimp only
  refine wpAny_bind (wpAny_dictEntries hob hdb ?_)
  rw [if_neg (by simp; omega)]
  refine wpAny_bind (wpAny_dictEpoch hoa hda ?_)
  refine wpAny_bind ?_
  rw [Std.Legacy.Range.forIn_eq_forIn_range']
  simp only [Std.Legacy.Range.size, Nat.sub_zero, Nat.add_sub_cancel, Nat.div_one]
  refine wpAny_forIn_list _ (fun rest q s' => s' = s ∧ q = (none, ()) ∧ ∃ i, rest = List.range' i (es.size - i) ∧ i ≤ es.size ∧ ∀ j, j < i → e j = true) _ ?_ ?_ _ _ ⟨rfl, rfl, 0, by simp, Nat.zero_le _, fun j hj => absurd hj (by omega)⟩
  · rintro x rest q s' ⟨rfl, rfl, i, hr, hi, hpre⟩
    have hlt : i < es.size := by
      rcases Nat.lt_or_ge i es.size with h | h
      · exact h
      · rw [Nat.sub_eq_zero_of_le h] at hr; simp at hr
    obtain ⟨rfl, hrest⟩ : x = i ∧ rest = List.range' (i + 1) (es.size - (i + 1)) := by
      have e : es.size - i = (es.size - (i + 1)) + 1 := by omega
      rw [e, List.range'_succ] at hr
      injection hr with h1 h2
      exact ⟨h1, h2⟩
    have hx : x < xa.length := by omega
    obtain ⟨k, p, hkp⟩ : ∃ k p, xa[x]? = some (k, p) := ⟨_, _, List.getElem?_eq_getElem hx⟩
    have hen : es[x]? = some (entryOfKey knd (k, p)) := by rw [entry_at hea x, hkp]; rfl
    obtain ⟨j, q, hq, heq⟩ := hits x k p hkp
    have hek : es'[j]? = some (entryOfKey knd (k, q)) := by rw [entry_at heb j, hq]; rfl
    have mem : (k, p) ∈ xa := List.mem_of_getElem? hkp
    refine wpAny_bind (wpAny_dictEntries hoa hda ?_)
    rw [hen]
    show wpAny _ _ (holding [_, _] _ >>= _) _ _ _
    refine wpAny_bind (wpAny_holding (wpAny_bind (wpAny_dictFind_heap hu (hia _ mem) hob hdb heb hib hnb ?_ ?_)))
    · intro no
      exact absurd hq (no j q)
    · intro j' q' hq'
      have ej : j' = j := by
        have l1 := (List.getElem?_eq_some_iff.mp hq').1
        have l2 := (List.getElem?_eq_some_iff.mp hq).1
        have e1 : (xb.map (·.1))[j']? = some k := by rw [List.getElem?_map, hq']; rfl
        have e2 : (xb.map (·.1))[j]? = some k := by rw [List.getElem?_map, hq]; rfl
        exact (List.getElem?_inj (by rw [List.length_map]; exact l1) hnb).mp (e1.trans e2.symm)
      subst ej
      refine wpAny_bind (wpAny_dictEntries hob hdb ?_)
      rw [hek]
      refine wpAny_holding (heq P w _ _ ?_)
      cases hb2 : e x with
      | false =>
        have hf : (List.range xa.length).all e = false := by
          rw [List.all_eq_false]
          exact ⟨x, List.mem_range.mpr hx, by rw [hb2]; exact Bool.false_ne_true⟩
        rw [hf] at h
        show wpAny _ _ (if (!false) = true then _ else _) _ _ _
        rw [if_pos (by decide)]
        exact wpAny_pure (wpAny_pure h)
      | true =>
        show wpAny _ _ (if (!true) = true then _ else _) _ _ _
        rw [if_neg (by decide)]
        refine wpAny_bind (wpAny_dictEpoch hoa hda ?_)
        rw [if_neg (by simp)]
        refine wpAny_pure ⟨rfl, rfl, x + 1, hrest, hlt, fun j hj => ?_⟩
        rcases Nat.lt_succ_iff_lt_or_eq.mp hj with g | g
        · exact hpre j g
        · subst g; exact hb2
  · rintro q s' ⟨rfl, rfl, i, hr, hi, hpre⟩
    have hin : i = es.size := by
      rcases Nat.lt_or_ge i es.size with h | h
      · have e : es.size - i = (es.size - (i + 1)) + 1 := by omega
        rw [e, List.range'_succ] at hr; exact nomatch hr
      · exact Nat.le_antisymm hi h
    refine wpAny_pure ?_
    have ht : (List.range xa.length).all e = true := List.all_eq_true.mpr fun j hj => hpre j (by have := List.mem_range.mp hj; omega)
    rw [ht] at h
    exact h
/-- two dicts from the same pairs to fractions -/
def rEqFD (K : PySem.W.Frag) : R2 := fun x y H Q => ∃ (a b : Addr) (dom : List (Int × Int)) (f g : Int × Int → Int × Int), x = .ref a ∧ y = .ref b ∧ FD K H a dom f ∧ FD K H b dom g ∧ Q (.bl (dom.all fun q => decide (f q = g q))) H
theorem op_eqFD (hu : X.A.units + 65 < cLine) : OpR X (compareOp .Eq) (rEqFD X.K) := by
  intro pins s σ H x y v u Q I rx ry h
  obtain ⟨a, b, dom, f, g, rfl, rfl, ⟨⟨ka, ea, ra⟩, nd, _⟩, ⟨⟨kb, eb, rb⟩, _, _⟩, q⟩ := h
  obtain rfl : v = Value.ref a := rx
  obtain rfl : u = Value.ref b := ry
  obtain ⟨z1, ha, xa, pa, da⟩ := dt_of I.hok ea
  obtain ⟨z2, hb, xb, pb, db⟩ := dt_of I.hok eb
  have la : xa.length = dom.length := (Paired.length pa).symm.trans ra.length
  have lb : xb.length = dom.length := (Paired.length pb).symm.trans rb.length
  have hla : ka.length = dom.length := ra.length
  let e : Nat → Bool := fun i => match dom[i]? with
    | some d => decide (f d = g d)
    | none => true
  have hall : (List.range xa.length).all e = dom.all fun q => decide (f q = g q) := by
    rw [la]
    have key : ∀ (l : List (Int × Int)), (List.range l.length).all (fun i => match l[i]? with
      | some d => decide (f d = g d)
      | none => true) = l.all fun q => decide (f q = g q) := by
      intro l
      rw [Bool.eq_iff_iff, List.all_eq_true, List.all_eq_true]
      constructor
      · intro h q hq
        obtain ⟨i, hi, ei⟩ := List.getElem_of_mem hq
        have := h i (List.mem_range.mpr hi)
        rw [List.getElem?_eq_getElem hi, ei] at this
        exact this
      · intro h i hi
        have hi := List.mem_range.mp hi
        rw [List.getElem?_eq_getElem hi]
        exact h _ (List.getElem_mem hi)
    exact key dom
  have hits : ∀ i k p, xa[i]? = some (k, p) → ∃ (j : Nat) (q : Addr × Value), xb[j]? = some (k, q) ∧ SeqAt.EqAt X.A.in1 s p.2 q.2 (e i) := fun i k p hk => by
    have hi : i < xa.length := (List.getElem?_eq_some_iff.mp hk).1
    have di : dom[i]? = some dom[i] := List.getElem?_eq_getElem (by omega)
    obtain ⟨kv, h1, h2, h3⟩ := ra.at' di
    obtain ⟨kw, g1, g2, g3⟩ := rb.at' di
    obtain ⟨c, c1, c2, _, c3⟩ := L2.paired_get pa h1
    obtain ⟨d, d1, d2, _, d3⟩ := L2.paired_get pb g1
    rw [hk] at c1
    obtain rfl := Option.some.inj c1
    refine ⟨i, d.2, ?_, ?_⟩
    · have e1 : k = d.1 := by rw [← show kv.1 = k from c2, h2, ← g2, d2]
      rw [d1, e1]
    · obtain ⟨as, r1⟩ := Dp.reads I _ _ _ h3.dp c3
      obtain ⟨bs, r2⟩ := Dp.reads I _ _ _ g3.dp d3
      have q := PySem.W.keq_at (A := X.A) r1 r2 (dat2_sh _) (dat2_sh _) (by have : X.A.in1.units = X.A.units + 1 := rfl; omega)
      rw [dat2_eqv] at q
      have ee : e i = decide (f dom[i] = g dom[i]) := by show (match dom[i]? with | some d => decide (f d = g d) | none => true) = _; rw [di]
      rw [ee]
      exact q
  refine wpAny_richCompare_same_room (op := .Eq) da.typeIs db.typeIs PySem.F.slot_dict_eq (wpAny_call_entry PySem.F.slot_dict_eq da.typeIs PySem.F.entry_dict_eq ?_ (PySem.F.args_dict_eq_2 _ _)) (by omega)
  show wpAny _ _ (Builtin.Dict.dictSlotArgs "__eq__" ⟨[.ref a, .ref b], []⟩ >>= _) _ _ s
  refine wpAny_bind ?_
  unfold Builtin.Dict.dictSlotArgs
  refine wpAny_bind (wpAny_notOrdered_dict da.typeIs ?_)
  show wpAny _ _ (pure (Value.ref a, Value.ref b)) _ _ s
  refine wpAny_pure ?_
  refine wpAny_bind (wpAny_isInstance (T := "dict") db.typeIs PySem.F.sub_dict_dict ?_)
  simp only [Bool.not_true, Bool.false_eq_true, if_false]
  refine wpAny_bind (wpAny_pure (wpAny_bind (wpAny_pure ?_)))
  refine wpAny_bind (sameH (knd := tupleKind (mixKind X.prog X.w)) (tupleKind_room_in1 (by omega)) ha hb da db (by omega) hits ?_)
  refine wpAny_pure ⟨_, rfl, ?_, ?_⟩
  · exact fun x => nomatch x
  · rw [hall]
    exact ⟨.bl _, H, I, by simp; rfl, q⟩
def rNeFD (K : PySem.W.Frag) : R2 := fun x y H Q => ∃ (a b : Addr) (dom : List (Int × Int)) (f g : Int × Int → Int × Int), x = .ref a ∧ y = .ref b ∧ FD K H a dom f ∧ FD K H b dom g ∧ Q (.bl (!dom.all fun q => decide (f q = g q))) H
theorem op_neFD (hu : X.A.units + 65 < cLine) : OpR X (compareOp .NotEq) (rNeFD X.K) := by
  intro pins s σ H x y v u Q I rx ry h
  obtain ⟨a, b, dom, f, g, rfl, rfl, ⟨⟨ka, ea, ra⟩, nd, _⟩, ⟨⟨kb, eb, rb⟩, _, _⟩, q⟩ := h
  obtain rfl : v = Value.ref a := rx
  obtain rfl : u = Value.ref b := ry
  obtain ⟨z1, ha, xa, pa, da⟩ := dt_of I.hok ea
  obtain ⟨z2, hb, xb, pb, db⟩ := dt_of I.hok eb
  have la : xa.length = dom.length := (Paired.length pa).symm.trans ra.length
  have lb : xb.length = dom.length := (Paired.length pb).symm.trans rb.length
  have hla : ka.length = dom.length := ra.length
  let e : Nat → Bool := fun i => match dom[i]? with
    | some d => decide (f d = g d)
    | none => true
  have hall : (List.range xa.length).all e = dom.all fun q => decide (f q = g q) := by
    rw [la]
    have key : ∀ (l : List (Int × Int)), (List.range l.length).all (fun i => match l[i]? with
      | some d => decide (f d = g d)
      | none => true) = l.all fun q => decide (f q = g q) := by
      intro l
      rw [Bool.eq_iff_iff, List.all_eq_true, List.all_eq_true]
      constructor
      · intro h q hq
        obtain ⟨i, hi, ei⟩ := List.getElem_of_mem hq
        have := h i (List.mem_range.mpr hi)
        rw [List.getElem?_eq_getElem hi, ei] at this
        exact this
      · intro h i hi
        have hi := List.mem_range.mp hi
        rw [List.getElem?_eq_getElem hi]
        exact h _ (List.getElem_mem hi)
    exact key dom
  have hits : ∀ i k p, xa[i]? = some (k, p) → ∃ (j : Nat) (q : Addr × Value), xb[j]? = some (k, q) ∧ SeqAt.EqAt X.A.in1 s p.2 q.2 (e i) := fun i k p hk => by
    have hi : i < xa.length := (List.getElem?_eq_some_iff.mp hk).1
    have di : dom[i]? = some dom[i] := List.getElem?_eq_getElem (by omega)
    obtain ⟨kv, h1, h2, h3⟩ := ra.at' di
    obtain ⟨kw, g1, g2, g3⟩ := rb.at' di
    obtain ⟨c, c1, c2, _, c3⟩ := L2.paired_get pa h1
    obtain ⟨d, d1, d2, _, d3⟩ := L2.paired_get pb g1
    rw [hk] at c1
    obtain rfl := Option.some.inj c1
    refine ⟨i, d.2, ?_, ?_⟩
    · have e1 : k = d.1 := by rw [← show kv.1 = k from c2, h2, ← g2, d2]
      rw [d1, e1]
    · obtain ⟨as, r1⟩ := Dp.reads I _ _ _ h3.dp c3
      obtain ⟨bs, r2⟩ := Dp.reads I _ _ _ g3.dp d3
      have q := PySem.W.keq_at (A := X.A) r1 r2 (dat2_sh _) (dat2_sh _) (by have : X.A.in1.units = X.A.units + 1 := rfl; omega)
      rw [dat2_eqv] at q
      have ee : e i = decide (f dom[i] = g dom[i]) := by show (match dom[i]? with | some d => decide (f d = g d) | none => true) = _; rw [di]
      rw [ee]
      exact q
  refine wpAny_richCompare_same_room (op := .NotEq) da.typeIs db.typeIs PySem.F.slot_dict_ne (wpAny_call_entry PySem.F.slot_dict_ne da.typeIs PySem.F.entry_dict_ne ?_ (PySem.F.args_dict_ne_2 _ _)) (by omega)
  show wpAny _ _ (Builtin.Dict.dictSlotArgs "__ne__" ⟨[.ref a, .ref b], []⟩ >>= _) _ _ s
  refine wpAny_bind ?_
  unfold Builtin.Dict.dictSlotArgs
  refine wpAny_bind (wpAny_notOrdered_dict da.typeIs ?_)
  show wpAny _ _ (pure (Value.ref a, Value.ref b)) _ _ s
  refine wpAny_pure ?_
  refine wpAny_bind (wpAny_isInstance (T := "dict") db.typeIs PySem.F.sub_dict_dict ?_)
  simp only [Bool.not_true, Bool.false_eq_true, if_false]
  refine wpAny_bind (wpAny_pure (wpAny_bind (wpAny_pure ?_)))
  refine wpAny_bind (sameH (knd := tupleKind (mixKind X.prog X.w)) (tupleKind_room_in1 (by omega)) ha hb da db (by omega) hits ?_)
  refine wpAny_pure ⟨_, rfl, ?_, ?_⟩
  · exact fun x => nomatch x
  · rw [hall]
    exact ⟨.bl _, H, I, by simp; rfl, q⟩
end

/-! ### {k: v}, the key a tuple -/
def tDispT (trs : List (TE × TE)) : TE := fun σ H Q => ∀ p, H p = none → tPairs trs σ (upd H p (.dT [])) fun ps H2 => H2 p = some (.dT []) ∧ ∃ (k : List L2.Key) (b : Addr) (v : V), ps = [(.ref b, v)] ∧ H2 b = some (.tup (k.map kV)) ∧ Q (.ref p) (upd H2 p (.dT (putK [] k v)))
theorem pe_dispT {X : Cx} {pos : Pos} {keys : List (Option Expr)} {values : List Expr} {trs : List (TE × TE)} (hu : X.A.units + 64 < cLine) (h : PPs X pos keys values trs) (hall : keys.all (·.isSome) = true) (hl : keys.length = values.length) (h0 : keys ≠ [])
    (h15 : keys.length ≤ 15) : PE X (.Dict keys values pos) (tDispT trs) := by
  refine ⟨fun pins s σ H Q I q => ?_⟩
  have hn := I.hok.fresh (Nat.le_refl s.heap.objs.size)
  have I1 := I.laid (a := s.heap.objs.size) (o := .dT []) (h' := s.heap.push { cls := .type "dict", data := .dict #[] }) (t' := s.toks) (fun _ _ q => Heap.get?_push_of_some _ q) (Nat.le_refl _) (dt_empty s.heap I.big)
  refine wpAny_Dict_any hall hl h0 h15 (thn (h.run pins _ σ _ _ I1 (q _ hn)) fun ws s2 ⟨ps, H2, I2, rel, e, k, b, v, ep, eb, q2⟩ => ?_)
  subst ep
  cases rel with
  | @cons _ u _ _ r1 r2 =>
    cases r2
    obtain ⟨u1, u2⟩ := u
    obtain ⟨r1, rv⟩ := r1
    cases (show u1 = Value.ref b from r1)
    obtain ⟨z, hd, xs, rel, dd⟩ := dt_of I2.hok e
    have hz : xs.length ≤ 0 := by rw [← Paired.length rel]; exact Nat.le_refl _
    have hx : xs = [] := List.eq_nil_of_length_eq_zero (by omega)
    refine wpAny_storeAllH (knd := tupleKind (mixKind X.prog X.w)) (show X.A.units < cLine by omega) [(.ref b, u2)] [(k, b, u2)] xs s2 _ ⟨rfl, rfl, key_of I2.hok eb, trivial⟩ dd (by rw [hx]; show 0 + 1 ≤ sizeLine; decide) fun h' tk dd' hs => ?_
    obtain ⟨q', es, ep, hq, h2, h3, h4, _, h5⟩ := dd'
    refine ⟨.ref s.heap.objs.size, upd H2 s.heap.objs.size (.dT (putK [] k v)), d_write I2 (by rw [e]; exact True.intro) hs ⟨q', hq⟩ ⟨(by have := length_putK [] k v; show (putK [] k v).length ≤ sizeLine; exact Nat.le_trans this (by decide)), hd, _, (rel.put k eb rv).keeps fun c ys ec => ?_, q', es, ep, hq, h2, h3, h4, h5⟩, rfl, q2⟩
    rw [upd_ne (ne_of ec e (fun z => nomatch z))]
    exact ec

/-! ### the law -/
def sp_law (K : PySem.W.Frag) : Sp := fun vs H Q _ => ∃ (a : Addr) (ns : List Int), vs = [.ref a] ∧ SqL K H a (ns.map V.int) ∧ ns.length ≤ 63 ∧ ∀ H', Q (.bl true) H'
def mid6 (a p : Addr) (H1 : Hp) : L2.St → Hp → Prop := fun σ H' => ∃ (o : Addr) (l : List (NestedKey × Int)), σ = [some (.ref a), some (.ref p), some (.ref o), none, none, none, none, none, none, none, none, none, none, none] ∧
  Same H1 H' ∧ SumAt H' o l ∧ (∀ z ∈ l, SmR (unrow z.1)) ∧ l.length ≤ 5
theorem Ents.drop {H : Hp} {kvs : List (List Key × V)} {dom : List (Int × Int)} {f : Int × Int → Int × Int} (h : Ents K H kvs dom f) (p : Int × Int) : Ents K H (dropK kvs (pk p)) (dom.filter fun q => decide (q ≠ p)) f := by
  induction h with
  | nil => exact .nil
  | @cons kv q xs ys h _ ih =>
    unfold dropK at ih ⊢
    by_cases e : q = p
    · rw [List.filter_cons_of_neg (by simp [h.1, e]), List.filter_cons_of_neg (by simp [e])]
      exact ih
    · rw [List.filter_cons_of_pos (by simpa using fun z => e (pk_inj (h.1.symm.trans z))), List.filter_cons_of_pos (by simpa using e)]
      exact .cons h ih
theorem FD.off {H : Hp} {a M : Addr} {dom : List (Int × Int)} {f : Int × Int → Int × Int} {ms : List V} {o : HO} (h : FD K H a dom f) (e : H M = some (.lst ms)) : FD K (upd H M o) a dom f := by
  obtain ⟨⟨kvs, e1, r⟩, nd, sm⟩ := h
  refine ⟨⟨kvs, by rw [upd_ne (ne_of e1 e (fun z => nomatch z))]; exact e1, Ents.tups (fun t xs q => ?_) r⟩, nd, sm⟩
  rw [upd_ne (ne_of q e (fun z => nomatch z))]
  exact q
theorem FD.any {H : Hp} {a : Addr} {dom : List (Int × Int)} {f : Int × Int → Int × Int} {v : V} {p x : Int × Int} (h : FD K H a dom f) (hs : smallP p) (hv : PrAt K H v x) :
    ∃ kvs, H a = some (.dT kvs) ∧ kvs.length = dom.length ∧ ∃ dom', FD K (upd H a (.dT (putK kvs (pk p) v))) a dom' (setF f p x) ∧ (∀ q, q ∈ dom' ↔ q ∈ dom ∨ q = p) ∧ dom'.length ≤ dom.length + 1 := by
  obtain ⟨⟨kvs, e, r⟩, nd, sm⟩ := h
  refine ⟨kvs, e, r.length, ?_⟩
  by_cases hp : p ∈ dom
  · exact ⟨dom, FD.set nd sm e r hp hv, fun q => ⟨.inl, fun z => z.elim id fun z => z ▸ hp⟩, Nat.le_succ _⟩
  · refine ⟨dom ++ [p], FD.put nd sm e r hp hs hv, fun q => ?_, by rw [List.length_append]; exact Nat.le_refl _⟩
    rw [List.mem_append, List.mem_singleton]
theorem tups_lst {H : Hp} {M : Addr} {ms : List V} {o : HO} (e : H M = some (.lst ms)) : TupS H (upd H M o) := fun t xs q => by
  rw [upd_ne (ne_of q e (fun z => nomatch z))]
  exact q
theorem tups_dT {H : Hp} {M : Addr} {kvs : List (List L2.Key × V)} {o : HO} (e : H M = some (.dT kvs)) : TupS H (upd H M o) := fun t xs q => by
  rw [upd_ne (ne_of q e (fun z => nomatch z))]
  exact q
theorem setF_f2 {dom dom' : List (Int × Int)} {f : Int × Int → Int × Int} {p x : Int × Int} (hf : ∀ q ∈ dom, F2 10 7 (f q)) (hx : F2 10 7 x) (hm : ∀ q, q ∈ dom' ↔ q ∈ dom ∨ q = p) : ∀ q ∈ dom', F2 10 7 (setF f p x q) := fun q hq => by
  unfold setF
  by_cases e : q = p
  · rw [if_pos e]; exact hx
  · rw [if_neg e]; exact hf q (((hm q).mp hq).resolve_right e)
def mmk (l : List (NestedKey × Int)) : List (Int × Int) := l.map fun y => unmark y.1
/-- the lengths are drawn: the marks so far ys -/
def LenS (K : PySem.W.Frag) (D M : Addr) (H4 H' : Hp) (ys : List (NestedKey × Int)) : Prop := ∃ (ms : List V) (dom : List (Int × Int)) (f : Int × Int → Int × Int), Same H4 H' ∧ H' M = some (.lst ms) ∧ PrL K H' ms (mmk ys) ∧ FD K H' D dom f ∧ dom.length ≤ 1 + ys.length ∧ (∀ q ∈ dom, F2 10 7 (f q)) ∧ ∀ y ∈ ys, unmark y.1 ∈ dom
theorem ok_law (T : Env K mg) : FnOk P w K mg base CX0 6 T.a_law T.fd_law ["_law_script"] (sp_law K) := by
  refine T.F_law.ok sc_law (fun vs H Q E h => ?_) (fun cdv A outer s H vs Q E hr h => ?_)
  · obtain ⟨a, ns, rfl, _⟩ := h
    rfl
  · obtain ⟨a, ns, rfl, hS, hl, q⟩ := h
    refine ⟨_, (pss_cons (ps_set (i := 1) sc_law.nd rfl (.inl rfl) (pe_call (ok__law_flow T) (hr.mono (by decide)) (by rfl) T.g__law_flow T.F__law_flow.kp T.b__law_flow .nil pass0 (pa_cons (pv 0) (pa_cons pe_int pa_nil))))
 (pss_cons (ps_set (i := 2) sc_law.nd rfl (.inl rfl) (pe_call (ok__law_draw_sum T) (hr.mono (by decide)) (by rfl) T.g__law_draw_sum T.F__law_draw_sum.kp T.b__law_draw_sum .nil pass0 (pa_cons (pe_slice sl_list (pv 1) (po_some pe_int) po_none) (pa_cons (pe_op op_mod (pe_ix ix_list (pv 1) pe_int (fun _ _ => rfl)) pe_int) (pa_cons pe_int pa_nil)))))
 (C8.pss_cut (ps_if (pt_cmpR op_eq (pe_op op_mod (pe_op op_fdiv (pe_ix ix_list (pv 1) pe_int (fun _ _ => rfl)) pe_int) pe_int) pe_int (nomark _))
 (pss_cons (ps_set (i := 2) sc_law.nd rfl (.inl rfl) (pe_lst (pa_cons (pe_tup (pa_cons (pe_tup (pa_cons (pe_tup (pa_cons (pe_tup (pa_cons pe_int (pa_cons pe_int pa_nil))) (pa_cons (pe_op op_sub pe_int (pe_op op_mod (pe_ix ix_list (pv 1) pe_int (fun _ _ => rfl)) pe_int)) pa_nil))) pa_nil)) (pa_cons (pe_op op_sub pe_int (pe_op op_mod (pe_ix ix_list (pv 1) pe_int (fun _ _ => rfl)) pe_int)) pa_nil))) pa_nil)))
 (pss_one (ps_set (i := 2) sc_law.nd rfl (.inl rfl) (pe_call (ok__law_settled T) (hr.mono (by decide)) (by rfl) T.g__law_settled T.F__law_settled.kp T.b__law_settled .nil pass0 (pa_cons (pe_call (ok__law_times T) (hr.mono (by decide)) (by rfl) T.g__law_times T.F__law_times.kp T.b__law_times .nil pass0 (pa_cons (pv 2) (pa_cons (pe_lst (pa_cons (pe_tup (pa_cons (pe_tup pa_nil) (pa_cons pe_int pa_nil))) pa_nil)) pa_nil))) pa_nil)))))
 pss_nil)
 (pss_cons (ps_set (i := 3) sc_law.nd rfl (.inl rfl) (pe_dispT (by exact hr.units) (pps_cons (pe_tup (pa_cons pe_int (pa_cons pe_int pa_nil))) (pe_tup (pa_cons pe_int (pa_cons pe_int pa_nil))) pps_nil) (by rfl) (by rfl) (fun z => by cases z) (by decide)))
 (pss_cons (ps_set (i := 4) sc_law.nd rfl (.inl rfl) (pe_lst pa_nil))
 (pss_cons (ps_for PassesOwn.never rfl (pi_list (pv 2)) (pg_tup rfl (pgs_cons (pg_name (i := 5) sc_law.nd rfl (.inl rfl)) (pgs_cons (pg_name (i := 6) sc_law.nd rfl (.inl rfl)) pgs_nil)))
 (pss_one (ps_for PassesOwn.never rfl (pi_tup (pv 5)) (pg_tup rfl (pgs_cons (pg_name (i := 7) sc_law.nd rfl (.inl rfl)) (pgs_cons (pg_name (i := 8) sc_law.nd rfl (.inl rfl)) pgs_nil)))
 (pss_cons (ps_expr (pe_bm PySem.F.plainAttrs_list PySem.F.slot_list_append PySem.F.type_list_append mt_append (pv 4) (pa_cons (pv 7) pa_nil)))
 (pss_one (ps_dput (hu_of hr) (pv 3) (pv 7) (pe_call (ok__law_size T) (hr.mono (by decide)) (by rfl) T.g__law_size T.F__law_size.kp T.b__law_size .nil pass0 (pa_cons (pe_ix ix_list (pv 1) (pe_op op_add pe_int (pe_op op_mod (pe_callB (id := "len") call_len_seq (by rfl) T.m_len (by decide +kernel) (pa_cons (pv 4) pa_nil)) pe_int)) (fun _ _ => rfl)) pa_nil)) rfl))))))
 (C8.pss_cut (ps_set (i := 9) sc_law.nd rfl (.inl rfl) (pe_and (pe_cmpR op_eq (pe_op op_mod (pe_ix ix_list (pv 1) pe_int (fun _ _ => rfl)) pe_int) pe_int (nomark _)) (pe_one (pe_cmpR (op_neNil hr.units) (pv 4) (pe_lst pa_nil) (nomark _)))))
 (C8.pss_cut (ps_if (pt_val (pv 9))
 (pss_one (ps_expr (pe_bm PySem.F.plainAttrs_dict PySem.F.slot_dict_pop PySem.F.type_dict_pop (mt_pop1T (hu_of hr)) (pv 3) (pa_cons (pe_ix ix_list (pv 4) (pe_op op_mod (pe_ix ix_list (pv 1) pe_int (fun _ _ => rfl)) (pe_callB (id := "len") call_len_seq (by rfl) T.m_len (by decide +kernel) (pa_cons (pv 4) pa_nil))) (fun _ _ => rfl)) pa_nil))))
 pss_nil)
 (pss_cons (ps_set (i := 10) sc_law.nd rfl (.inl rfl) (pe_callTy (call_dictT (by exact hr.units)) (by rfl) T.m_dict (by decide +kernel) (pa_cons (pv 3) pa_nil)))
 (pss_cons (ps_set (i := 11) sc_law.nd rfl (.inl rfl) (pe_callTy call_list_of (by rfl) T.m_list (by decide +kernel) (pa_cons (pv 2) pa_nil)))
 (pss_cons (ps_try_as (i := 13) rfl rfl sc_law.nd rfl rfl ⟨rfl, by decide, .inl T.c_MeadError⟩ takes0 (fun W pn xe tk _ => (pss_one (ps_set (i := 12) sc_law.nd rfl (.inl rfl) (pe_callS (ok_worth T) (hr.mono (by decide)) (by rfl) T.g_worth T.F_worth.kp T.b_worth (fun σ => passAt tk σ) (pa_cons (pv 11) (pa_cons (pv 10) pa_nil)))))) (fun a oe cls d pn hz hf => (pss_guard (P := cls = .ref T.C_NoLetter ∧ d = none) (fun hP => (pss_one (ps_ret (pe_and (pv 9) (pe_one (pe_callB (call_isE T.e_NoLetter (zc_of hz hP) hf) (by rfl) T.m_isinstance (by decide +kernel) (pa_cons (pv 13) (pa_cons (pe_glob (v := .ref T.C_NoLetter) rfl T.c_NoLetter rfl) pa_nil)))))))))))
 (pss_cons (ps_if (PW.pt (pw_or (pt_val (pv 9)) (pw_or (pt_cmpR (op_neFD (by have h_ := Room.units2 hr; exact h_)) (pv 10) (pv 3) (nomark _)) (pw_or1 (pt_cmpR (op_neD hr.units) (pv 11) (pv 2) (nomark _))))))
 (pss_one (ps_ret pe_bl))
 pss_nil)
 (pss_one (ps_ret (pe_and (pe_call (ok__law_part T) (hr.mono (by decide)) (by rfl) T.g__law_part T.F__law_part.kp T.b__law_part .nil pass0 (pa_cons (pv 12) pa_nil)) (pe_one (pe_cmpR (op_eqP2 (by have h_ := hr.units; exact h_)) (pv 12) (pe_call (ok__law_worth T) (hr.mono (by decide)) (by rfl) T.g__law_worth T.F__law_worth.kp T.b__law_worth .nil pass0 (pa_cons (pv 2) (pa_cons (pv 3) pa_nil))) (nomark _)))))))))))))))))), ?_⟩
    refine ⟨_, rfl, a, ns, 34, rfl, hS, hl, by decide, by decide, fun H1 p rs hs hp hlen hro hrow => ?_⟩
    have hlen : rs.length = 34 := hlen
    have hR : ∀ {H2}, Same H1 H2 → SqL K H2 p (rs.map V.int) := fun s => .inl (.inl (s _ _ hrow))
    obtain ⟨r0, m0, a0⟩ := int_at (rs := rs) (k := 0) (by omega)
    obtain ⟨r1, m1, a1⟩ := int_at (rs := rs) (k := 1) (by omega)
    obtain ⟨r2, m2, a2⟩ := int_at (rs := rs) (k := 2) (by omega)
    have c6 := Int.emod_nonneg r1 (show (6 : Int) ≠ 0 by decide)
    have d6 := Int.emod_lt_of_pos r1 (show (0 : Int) < 6 by decide)
    obtain ⟨tn, htn⟩ : ∃ tn : Nat, r1 % 6 = (tn : Int) := ⟨(r1 % 6).toNat, by omega⟩
    obtain ⟨rs', ec, el'⟩ := cut_ints rs 4 (by decide)
    have el' : rs'.length = rs.length - 4 := el'
    refine ⟨_, rfl, 4, rfl, p, _, rfl, hR (Same.refl _), fun q1 hq1 => ?_⟩
    rw [ec]
    have s1 := same_new (o := .lst (rs'.map V.int)) hq1
    have e1 : (upd H1 q1 (.lst (rs'.map V.int))) q1 = some (.lst (rs'.map V.int)) := upd_same
    generalize upd H1 q1 (.lst (rs'.map V.int)) = H2 at *
    refine ⟨_, rfl, p, _, _, _, rfl, rfl, hR s1, a1, _, _, rfl, rfl, (by show (0 : Int) < _; decide), ?_⟩
    refine ⟨q1, rs', tn, 3, by rw [← htn]; rfl, .inl (.inl e1), by omega, by omega, by omega, by omega, fun H3 o xs l0 s3 ho hxs hP hok hfew hbd hsh hln hSm => ?_⟩
    refine ⟨mid6 a p H1, ?_, ?_⟩
    · refine ⟨_, rfl, p, _, _, _, rfl, rfl, hR (s1.trans s3), a0, _, _, rfl, rfl, ⟨by decide, by decide⟩, _, _, rfl, rfl, (by show (0 : Int) < _; decide), rfl, _, rfl, ite2 (fun _ => ?_) (fun _ => ⟨o, _, rfl, s1.trans s3, ⟨⟨xs, hxs, hP⟩, hok, hfew, hbd, hsh⟩, hSm, by omega⟩)⟩
      clear hxs hP hok hfew hbd hsh hln hSm
      have s13 := s1.trans s3
      have b61 := And.intro (Int.emod_nonneg r2 (show (61 : Int) ≠ 0 by decide)) (Int.emod_lt_of_pos r2 (show (0 : Int) < 61 by decide))
      have b3 := And.intro (Int.emod_nonneg r1 (show (3 : Int) ≠ 0 by decide)) (Int.emod_lt_of_pos r1 (show (0 : Int) < 3 by decide))
      refine ⟨(by show 2 ≤ sizeLine; decide), fun t1 ht1 => ?_⟩
      have u1 : Same H3 _ := same_new (o := .tup [.int 2, .int 3]) ht1
      have f1 : (upd H3 t1 (.tup [.int 2, .int 3])) t1 = some (.tup [.int 2, .int 3]) := upd_same
      generalize upd H3 t1 (.tup [.int 2, .int 3]) = I1 at *
      refine ⟨_, rfl, p, _, _, _, rfl, rfl, hR (s13.trans u1), a2, _, _, rfl, rfl, (by show (0 : Int) < _; decide), _, _, rfl, rfl, (by show 2 ≤ sizeLine; decide), fun t2 ht2 => ?_⟩
      generalize hI2 : upd I1 t2 _ = I2
      obtain ⟨e, he, f2⟩ : ∃ e : Int, e.natAbs ≤ 40 ∧ I2 t2 = some (.tup [.ref t1, .int e]) := ⟨20 - r2 % 61, by omega, by rw [← hI2]; exact upd_same⟩
      have u2 : Same I1 I2 := by rw [← hI2]; exact same_new ht2
      clear hI2
      refine ⟨(by show 1 ≤ sizeLine; decide), fun t3 ht3 => ?_⟩
      have u3 : Same I2 _ := same_new (o := .tup [.ref t2]) ht3
      have f3 : (upd I2 t3 (.tup [.ref t2])) t3 = some (.tup [.ref t2]) := upd_same
      generalize upd I2 t3 (.tup [.ref t2]) = I3 at *
      refine ⟨_, rfl, p, _, _, _, rfl, rfl, hR (((s13.trans u1).trans u2).trans u3), a1, _, _, rfl, rfl, (by show (0 : Int) < _; decide), _, _, rfl, rfl, (by show 2 ≤ sizeLine; decide), fun t4 ht4 => ?_⟩
      generalize hI4 : upd I3 t4 _ = I4
      obtain ⟨c, hc, f4⟩ : ∃ c : Int, c.natAbs ≤ 40 ∧ I4 t4 = some (.tup [.ref t3, .int c]) := ⟨3 - r1 % 3, by omega, by rw [← hI4]; exact upd_same⟩
      have u4 : Same I3 I4 := by rw [← hI4]; exact same_new ht4
      clear hI4
      refine ⟨(by show 1 ≤ sizeLine; decide), fun L hL => ?_⟩
      have u5 : Same I4 _ := same_new (o := .lst [.ref t4]) hL
      have f5 : (upd I4 L (.lst [.ref t4])) L = some (.lst [.ref t4]) := upd_same
      generalize upd I4 L (.lst [.ref t4]) = I5 at *
      have s15 := ((((s13.trans u1).trans u2).trans u3).trans u4).trans u5
      have hP5 : PrAll I5 [(rowK [(markK 2 3, e)], c)] [.ref t4] := .cons (u5 _ _ f4) (PrAll.key (.cons ((u3.trans (u4.trans u5)) _ _ f2) (.tup ((u2.trans (u3.trans (u4.trans u5))) _ _ f1) (.cons (.num _) (.cons (.num _) .nil))) .nil) ((u4.trans u5) _ _ f3)) .nil
      refine ⟨_, rfl, (by show 0 ≤ sizeLine; decide), fun v1 hv1 => ?_⟩
      have w1 : Same I5 _ := same_new (o := .tup []) hv1
      have g1 : (upd I5 v1 (.tup [])) v1 = some (.tup []) := upd_same
      generalize upd I5 v1 (.tup []) = J1 at *
      refine ⟨(by show 2 ≤ sizeLine; decide), fun v2 hv2 => ?_⟩
      have w2 : Same J1 _ := same_new (o := .tup [.ref v1, .int 1]) hv2
      have g2 : (upd J1 v2 (.tup [.ref v1, .int 1])) v2 = some (.tup [.ref v1, .int 1]) := upd_same
      generalize upd J1 v2 (.tup [.ref v1, .int 1]) = J2 at *
      refine ⟨(by show 1 ≤ sizeLine; decide), fun M hM => ?_⟩
      have w3 : Same J2 _ := same_new (o := .lst [.ref v2]) hM
      have g3 : (upd J2 M (.lst [.ref v2])) M = some (.lst [.ref v2]) := upd_same
      generalize upd J2 M (.lst [.ref v2]) = J3 at *
      have w13 := (w1.trans w2).trans w3
      have hPM : PrAll J3 [(rowK [], 1)] [.ref v2] := .cons (w3 _ _ g2) (PrAll.key .nil ((w2.trans w3) _ _ g1)) .nil
      have qL : SumQ J3 L [(rowK [(markK 2 3, e)], c)] := ⟨⟨_, w13 _ _ f5, hP5.mono w13⟩, fun z hz => ⟨[(markK 2 3, e)], by rw [List.mem_singleton.mp hz], ⟨fun y hy => by rw [List.mem_singleton.mp hy]; exact ⟨2, 3, rfl⟩⟩⟩, by show 1 ≤ 10; decide, fun z hz => by rw [List.mem_singleton.mp hz]; exact hc, fun z hz => by rw [List.mem_singleton.mp hz, unrow_row]; show 1 ≤ 5; decide⟩
      have qM : SumQ J3 M [(rowK [], 1)] := ⟨⟨_, g3, hPM⟩, fun z hz => ⟨[], by rw [List.mem_singleton.mp hz], ⟨fun y hy => nomatch hy⟩⟩, by show 1 ≤ 10; decide, fun z hz => by rw [List.mem_singleton.mp hz]; show (1 : Int).natAbs ≤ 40; decide, fun z hz => by rw [List.mem_singleton.mp hz, unrow_row]; show 0 ≤ 5; decide⟩
      refine ⟨L, M, _, _, rfl, qL, qM, fun K1 q2 zs x1 nq2 eq2 hPz => ?_⟩
      have hrows := prod_rowsQ qL qM
      have hpl : (prod [(rowK [(markK 2 3, e)], c)] [(rowK [], 1)]).length = 1 := prod_len _ _
      have hpt : tot (prod [(rowK [(markK 2 3, e)], c)] [(rowK [], 1)]) ≤ 40 := by
        show (c * 1).natAbs + 0 ≤ 40
        rw [Int.mul_one]
        exact hc
      have hpk : ∀ z ∈ prod [(rowK [(markK 2 3, e)], c)] [(rowK [], 1)], unrow z.1 = settle [(markK 2 3, e)] := fun z hz => by
        have : z = (rmul (rowK [(markK 2 3, e)]) (rowK []), c * 1) := List.mem_singleton.mp hz
        rw [this]
        show unrow (rmul _ _) = _
        unfold rmul
        rw [unrow_row, unrow_row, unrow_row]
        rfl
      generalize prod [(rowK [(markK 2 3, e)], c)] [(rowK [], 1)] = X at *
      have hX := settle_sum (l := X) (by omega) hrows
      have hXl := settle_len X
      have hXt := settle_tot X
      refine ⟨q2, zs, settle X, rfl, .inl (.inl eq2), hPz, by omega, hX.keys, fun K2 q3 ws x2 nq3 eq3 hPw => ?_⟩
      have hY := settle_sum (l := settle X) (by omega) hX.rk
      have hYl := settle_len (settle X)
      have hYk : ∀ z ∈ settle (settle X), unrow z.1 = settle [(markK 2 3, e)] := fun z hz => by
        obtain ⟨u, hu, e1⟩ := List.mem_map.mp (settle_keys hz).1
        obtain ⟨u', hu', e2⟩ := List.mem_map.mp (settle_keys hu).1
        rw [← e1, ← e2]
        exact hpk u' hu'
      have hsl := settle_len [(markK 2 3, e)]
      have hst := settle_tot [(markK 2 3, e)]
      have hst : tot (settle [(markK 2 3, e)]) ≤ e.natAbs + 0 := hst
      have hsm : SmR (settle [(markK 2 3, e)]) := ⟨settle_mk fun y hy => by rw [List.mem_singleton.mp hy]; exact ⟨(2, 3), rfl, by unfold smallP; decide +kernel⟩, by omega⟩
      refine ⟨q3, settle (settle X), rfl, ((s15.trans w13).trans x1).trans x2, ⟨⟨ws, eq3, hPw⟩, hY, by omega, fun z hz => Nat.le_trans (settle_bd hz) (Nat.le_trans hXt hpt), fun z hz => by rw [hYk z hz]; exact Nat.le_trans hsl (show 1 ≤ 5 by decide)⟩, fun z hz => by rw [hYk z hz]; exact hsm, by omega⟩
    · rintro _ H4 ⟨o4, l, rfl, s4, hA, hSm4, h5⟩
      clear hxs hP hok hfew hbd hsh hln hSm
      -- the lengths
      refine fun D hD => ⟨(by show 2 ≤ sizeLine; decide), fun k1 hk1 => ⟨(by show 2 ≤ sizeLine; decide), fun v1 hv1 => ?_⟩⟩
      have x1 := same_new (o := .dT []) hD
      have y1 : (upd H4 D (.dT [])) D = some (.dT []) := upd_same
      generalize upd H4 D (.dT []) = A1 at *
      have x2 := same_new (o := .tup [.int 7, .int 9]) hk1
      have y2 : (upd A1 k1 (.tup [.int 7, .int 9])) k1 = some (.tup [.int 7, .int 9]) := upd_same
      generalize upd A1 k1 (.tup [.int 7, .int 9]) = A2 at *
      have x3 := same_new (o := .tup [.int 2, .int 3]) hv1
      have y3 : (upd A2 v1 (.tup [.int 2, .int 3])) v1 = some (.tup [.int 2, .int 3]) := upd_same
      generalize upd A2 v1 (.tup [.int 2, .int 3]) = A3 at *
      have y1 := x3 _ _ (x2 _ _ y1)
      have y2 := x3 _ _ y2
      have f0 : FD K (upd A3 D (.dT (putK [] (pk (7, 9)) (.ref v1)))) D ([] ++ [(7, 9)]) (setF (fun _ => (1, 1)) (7, 9) (2, 3)) := FD.put List.nodup_nil (fun _ h => (nomatch h)) y1 .nil (fun h => nomatch h) (by unfold smallP; decide +kernel) ⟨v1, rfl, y3⟩
      have x4 : Same H4 (upd A3 D (.dT (putK [] (pk (7, 9)) (.ref v1)))) := same_put (x1.trans (x2.trans x3)) hD
      refine ⟨y1, pk (7, 9), k1, .ref v1, rfl, key_pk (p := (7, 9)) y2, ?_⟩
      generalize upd A3 D (.dT (putK [] (pk (7, 9)) (.ref v1))) = A4 at *
      refine ⟨(by show 0 ≤ sizeLine; decide), fun M hM => ?_⟩
      have x5 := same_new (o := .lst []) hM
      have y5 : (upd A4 M (.lst [])) M = some (.lst []) := upd_same
      generalize upd A4 M (.lst []) = A5 at *
      have hM4 : H4 M = none := x4.free hM
      have L0 : LenS K D M H4 A5 [] := ⟨[], _, _, x4.trans x5, y5, .nil, f0.mono x5, Nat.le_refl _, fun q hq => by rw [List.mem_singleton.mp hq]; exact ⟨by decide, ⟨by decide, by decide⟩, by decide, by decide⟩, fun _ h => nomatch h⟩
      have s5 := x4.trans x5
      clear f0 y5 x5 x4 y1 y2 y3 x1 x2 x3
      obtain ⟨xs4, ho4, hP4⟩ := hA.ex
      have hlf : (flm l).length ≤ 25 := by
        have h1 := flm_len (l := l) fun z hz => hA.sh z hz
        omega
      refine ⟨_, rfl, o4, rfl, ⟨_, .inl (.inl (s5 _ _ ho4))⟩, for_list (K := K) (a := o4) (xs := xs4) (fun i σ H' => ∃ (y5 y6 y7 y8 : Option V), σ = [some (.ref a), some (.ref p), some (.ref o4), some (.ref D), some (.ref M), y5, y6, y7, y8, none, none, none, none, none] ∧ LenS K D M H4 H' (flm (l.take i))) ⟨_, _, _, _, rfl, L0⟩
        (fun i σ H' _ ⟨_, _, _, _, _, _, _, _, s1, _⟩ => .inl (.inl (s1 _ _ ho4))) ?_ ?_⟩
      · rintro i x σ H5 hi ⟨y5, y6, y7, y8, rfl, hL⟩
        have sL : Same H4 H5 := by obtain ⟨_, _, _, s, _⟩ := hL; exact s
        obtain ⟨k, n, t, b1, hl', rfl, ht, hb1⟩ := hP4.at hi
        have hmem := List.mem_of_getElem? hl'
        obtain ⟨r, hk, hRr⟩ := hA.ok.rk _ hmem
        have hk : k = rowK r := hk
        subst hk
        have hsm : SmR (unrow (rowK r)) := hSm4 _ hmem
        have hsh : (unrow (rowK r)).length ≤ 5 := hA.sh _ hmem
        rw [unrow_row] at hsh hsm
        obtain ⟨us, hbu, hPu⟩ := nk_row hRr.rk hb1
        have hfl := flm_more hl'
        rw [show unrow ((rowK r, n) : NestedKey × Int).1 = r from unrow_row r] at hfl
        have hlen2 : (flm (l.take i)).length ≤ 25 := by
          have h1 := flm_len (l := l.take i) fun z hz => hA.sh z (List.mem_of_mem_take hz)
          rw [List.length_take] at h1
          omega
        refine ⟨t, _, rfl, .inl (.inl (sL _ _ ht)), rfl, _, _, rfl, _, _, rfl, rfl, ?_⟩
        refine ⟨_, rfl, b1, rfl, ⟨_, .inl (.inl (sL _ _ hbu))⟩, for_tup (K := K) (a := b1) (xs := us) (fun j σ H' => ∃ (z7 z8 : Option V), σ = [some (.ref a), some (.ref p), some (.ref o4), some (.ref D), some (.ref M), some (.ref b1), some (.int n), z7, z8, none, none, none, none, none] ∧ LenS K D M H4 H' (flm (l.take i) ++ r.take j))
          ⟨_, _, rfl, by rw [List.take_zero, List.append_nil]; exact hL⟩ (fun j σ H' _ ⟨_, _, _, _, _, _, s1, _⟩ => .inl (.inl (s1 _ _ hbu))) ?_ ?_⟩
        · rintro j x σ H6 hj ⟨z7, z8, rfl, ms, dom, f, s6, hMs, hPm, hFD, hdl, hf, hin⟩
          obtain ⟨k', m, t', b2, hl2, rfl, ht2, hb2⟩ := hPu.at hj
          have hmem2 := List.mem_of_getElem? hl2
          obtain ⟨pq, hk', hs⟩ := hsm.ms _ hmem2
          have hk' : k' = markP pq := hk'
          subst hk'
          have hu := nk_mark hb2
          have hjl : j < r.length := (List.getElem?_eq_some_iff.mp hl2).1
          have hyl : (flm (l.take i) ++ r.take j).length ≤ 30 := by rw [List.length_append, List.length_take]; omega
          have hml : ms.length ≤ 30 := by have := hPm.length; unfold mmk at this; rw [List.length_map] at this; omega
          have h4 : (20000 : Nat) < sizeLine := by decide
          refine ⟨t', _, rfl, .inl (.inl (s6 _ _ ht2)), rfl, _, _, rfl, _, _, rfl, rfl, ?_⟩
          refine ⟨_, rfl, .inl ⟨rfl, _, .inl (.inl hMs)⟩, _, rfl, M, ms, _, rfl, rfl, hMs, by omega, ?_⟩
          have s7 : Same H4 (upd H6 M (.lst (ms ++ [.ref b2]))) := same_put s6 hM4
          have m7 : (upd H6 M (.lst (ms ++ [.ref b2]))) M = some (.lst (ms ++ [.ref b2])) := upd_same
          have p7 : PrL K (upd H6 M (.lst (ms ++ [.ref b2]))) (ms ++ [.ref b2]) (mmk (flm (l.take i) ++ r.take j) ++ [pq]) := (PrL.tups (tups_lst hMs) hPm).app (.one ⟨b2, rfl, s7 _ _ hu⟩)
          have f7 := FD.off (o := .lst (ms ++ [.ref b2])) hFD hMs
          generalize upd H6 M (.lst (ms ++ [.ref b2])) = H7 at *
          obtain ⟨rv, mv, av⟩ := int_at (rs := rs) (k := 20 + (ms ++ [V.ref b2]).length % 14) (by rw [hlen]; omega)
          refine ⟨_, rfl, _, rfl, M, _, rfl, .inl (.inl (.inl m7)), _, _, rfl, rfl, (by show (0 : Int) < _; decide), _, _, rfl, rfl, p, _, _, _, rfl, rfl, hR (s4.trans s7), ?_, rv, rfl, fun H8 v8 x8 s8 hv8 fx8 => ?_⟩
          · have e : (20 : Int) + ((ms ++ [V.ref b2]).length : Int) % 14 = ((20 + (ms ++ [V.ref b2]).length % 14 : Nat) : Int) := by omega
            show atI _ ((20 : Int) + ((ms ++ [V.ref b2]).length : Int) % 14) = _
            rw [e]; exact av
          obtain ⟨kvs, ek, ekl, dom', hFD', hm', hdl'⟩ := FD.any (f7.mono s8) hs hv8
          refine ⟨_, rfl, _, rfl, D, _, rfl, DPut.t ek (key_pk ((s7.trans s8) _ _ hu)) (by omega), ?_⟩
          refine ⟨_, _, rfl, ms ++ [.ref b2], dom', _, same_put (s7.trans s8) hD, ?_, ?_, hFD', ?_, setF_f2 hf fx8 hm', ?_⟩
          · have m8 := s8 _ _ m7
            rw [upd_ne (ne_of m8 ek (fun z => nomatch z))]
            exact m8
          · have e : mmk (flm (l.take i) ++ r.take (j + 1)) = mmk (flm (l.take i) ++ r.take j) ++ [pq] := by
              rw [take_more' hl2, ← List.append_assoc]
              unfold mmk
              rw [List.map_append]
              rfl
            rw [e]
            exact PrL.tups (tups_dT ek) (p7.mono s8)
          · rw [take_more' hl2, ← List.append_assoc, List.length_append]
            show _ ≤ 1 + (_ + 1)
            omega
          · intro y hy
            rw [take_more' hl2, ← List.append_assoc] at hy
            rcases List.mem_append.mp hy with hy | hy
            · exact (hm' _).mpr (.inl (hin y hy))
            · rw [List.mem_singleton.mp hy]
              exact (hm' _).mpr (.inr rfl)
        · rintro σ H6 ⟨z7, z8, rfl, hL6⟩
          rw [hPu.length, List.take_length] at hL6
          rw [hfl]
          exact ⟨_, _, _, _, rfl, hL6⟩
      · rintro σ H5 ⟨y5, y6, y7, y8, rfl, hL⟩
        rw [hP4.length, List.take_length] at hL
        refine ⟨fun σ' H' => ∃ (b : Bool), σ' = [some (.ref a), some (.ref p), some (.ref o4), some (.ref D), some (.ref M), y5, y6, y7, y8, some (.bl b), none, none, none, none] ∧ LenS K D M H4 H' (flm l) ∧ (b = true → flm l ≠ []), ?_, ?_⟩
        · have sL : Same H4 H5 := by obtain ⟨_, _, _, s, _⟩ := hL; exact s
          refine ⟨_, rfl, p, _, _, _, rfl, rfl, hR (s4.trans sL), a0, _, _, rfl, rfl, (by show (0 : Int) < _; decide), rfl, _, rfl, ite2 (fun hc => ?_) (fun hc => ?_)⟩
          · refine ⟨_, rfl, (by show 0 ≤ sizeLine; decide), fun e he => ?_⟩
            have se := same_new (o := .lst []) he
            have ee : (upd H5 e (.lst [])) e = some (.lst []) := upd_same
            generalize upd H5 e (.lst []) = H6 at *
            obtain ⟨ms, dom, f, s6, hMs, hPm, hFD, hdl, hf, hin⟩ := hL
            refine ⟨M, e, ms, rfl, rfl, se _ _ hMs, ee, !ms.isEmpty, rfl, ⟨ms, dom, f, s6.trans se, se _ _ hMs, PrL.tups (TupS.of se) hPm, hFD.mono se, hdl, hf, hin⟩, fun hb e0 => ?_⟩
            rw [e0] at hPm
            cases hPm
            cases hb
          · exact ⟨false, rfl, hL, fun z => nomatch z⟩
        · rintro _ H6 ⟨b, rfl, hL⟩
          clear L0 s5
          obtain ⟨⟨ms, dom, f, s6, hMs, hPm, hFD, hdl, hf, hin⟩, hb⟩ := hL
          refine ⟨fun σ' H' => ∃ (dom' : List (Int × Int)), σ' = [some (.ref a), some (.ref p), some (.ref o4), some (.ref D), some (.ref M), y5, y6, y7, y8, some (.bl b), none, none, none, none] ∧ Same H4 H' ∧ FD K H' D dom' f ∧ (∀ q ∈ dom', F2 10 7 (f q)) ∧
            (b = true → ∃ y ∈ flm l, unmark y.1 ∉ dom') ∧ (b = false → ∀ y ∈ flm l, unmark y.1 ∈ dom'), ?_, ?_⟩
          · refine ⟨_, rfl, b, rfl, ite2 (fun hbt => ?_) (fun hbf => ⟨dom, rfl, s6, hFD, hf, fun z => absurd z hbf, fun _ => hin⟩)⟩
            have hbt : b = true := hbt
            have hne := hb hbt
            have hml : ms.length = (flm l).length := by have := hPm.length; unfold mmk at this; rw [List.length_map] at this; omega
            have hpos : 0 < (flm l).length := List.length_pos_iff.mpr hne
            have hmod := And.intro (Int.emod_nonneg r2 (show ((ms.length : Int)) ≠ 0 by omega)) (Int.emod_lt_of_pos r2 (show 0 < (ms.length : Int) by omega))
            obtain ⟨ix, hix⟩ : ∃ ix : Nat, r2 % (ms.length : Int) = (ix : Int) := ⟨(r2 % (ms.length : Int)).toNat, by omega⟩
            have hixl : ix < (flm l).length := by omega
            have hy : (flm l)[ix]? = some (flm l)[ix] := List.getElem?_eq_getElem hixl
            have hym : (mmk (flm l))[ix]? = some (unmark (flm l)[ix].1) := by unfold mmk; rw [List.getElem?_map, hy]; rfl
            have hyin : (flm l)[ix] ∈ flm l := List.getElem_mem hixl
            generalize (flm l)[ix] = y at *
            obtain ⟨mv, hmv, tt, rfl, htt⟩ := hPm.at' hym
            obtain ⟨⟨kvs, ek, rk⟩, nd, sm⟩ := hFD
            obtain ⟨va, ga, qa⟩ := Ents.get rk (hin y hyin)
            have hat : atI ms (r2 % (ms.length : Int)) = some (.ref tt) := by rw [hix]; exact atI_nat hmv
            refine ⟨_, rfl, .inr (.inr (.inl ⟨rfl, .inr ⟨_, ek⟩⟩)), _, rfl, _, rfl, p, _, _, _, rfl, rfl, hR (s4.trans s6), a2, _, rfl, M, ms, rfl, .inl (.inl (.inl hMs)), _, _, rfl, rfl, (by show (0 : Int) < (ms.length : Int); omega), M, ms, _, _, rfl, rfl, .inl (.inl hMs), hat, ?_⟩
            · refine ⟨D, kvs, pk (unmark y.1), tt, va, rfl, rfl, ek, key_pk htt, ga, ?_⟩
              refine ⟨dom.filter fun q => decide (q ≠ unmark y.1), rfl, same_put s6 hD, ⟨⟨_, upd_same, Ents.tups (tups_dT ek) (Ents.drop rk _)⟩, nd.filter _, fun q hq => sm q (List.mem_filter.mp hq).1⟩, fun q hq => hf q (List.mem_filter.mp hq).1, fun _ => ⟨y, hyin, fun hm => ?_⟩, fun z => absurd (z.symm.trans hbt) (by decide)⟩
              have := (List.mem_filter.mp hm).2
              simp at this
          · rintro _ H7 ⟨dom', rfl, s7, hFD7, hf7, hb1, hb0⟩
            obtain ⟨⟨kvs, ek, rk⟩, nd, sm⟩ := hFD7
            refine ⟨_, rfl, D, kvs, dom', rfl, ek, Ents.keys rk, nd, sm, fun N hN => ?_⟩
            have s8 := same_new (o := .dT kvs) hN
            have fN : FD K (upd H7 N (.dT kvs)) N dom' f := ⟨⟨kvs, upd_same, Ents.tups (TupS.of s8) rk⟩, nd, sm⟩
            have fD : FD K (upd H7 N (.dT kvs)) D dom' f := ⟨⟨kvs, s8 _ _ ek, Ents.tups (TupS.of s8) rk⟩, nd, sm⟩
            generalize upd H7 N (.dT kvs) = H8 at *
            refine ⟨_, rfl, o4, xs4, rfl, .inl (.inl (.inl ((s7.trans s8) _ _ ho4))), fun LL hLL => ?_⟩
            have s9 := same_new (o := .lst xs4) hLL
            have e9 : (upd H8 LL (.lst xs4)) LL = some (.lst xs4) := upd_same
            generalize upd H8 LL (.lst xs4) = H9 at *
            have fN := fN.mono s9
            have fD := fD.mono s9
            have s49 := (s7.trans s8).trans s9
            have hP9 := hP4.mono s49
            have ho9 := s49 _ _ ho4
            have A9 : SumAt H9 LL l := ⟨⟨xs4, e9, hP9⟩, hA.ok, hA.few, hA.bd, hA.sh⟩
            refine ⟨_, rfl, _, rfl, LL, N, l, dom', f, rfl, A9, hSm4, h5, fN, hf7, fun hbad H10 s10 => ?_, fun hgood H10 v s10 hv hvb => ?_⟩
            · have hbt : b = true := by
                cases b with
                | true => rfl
                | false =>
                  obtain ⟨y, hy, hn⟩ := hbad
                  exact absurd (hb0 rfl y hy) hn
              subst hbt
              refine ⟨true, PySem.W.exm_ref T.bs_MeadError T.e_MeadError.hd T.ty_MeadError T.sub_NoLetter_MeadError, fun _ e he => ⟨⟨rfl, rfl⟩, ?_⟩, fun z => nomatch z⟩
              refine ⟨_, rfl, true, rfl, iteT ?_⟩
              exact ⟨_, rfl, _, _, _, rfl, (fun _ z => z), T.kit_NoLetter_NoLetter, q _⟩
            · have hbt : b = false := by
                cases b with
                | false => rfl
                | true =>
                  obtain ⟨y, hy, hn⟩ := hb1 rfl
                  exact absurd (hgood y hy) hn
              subst hbt
              have hall : (dom'.all fun q => decide (f q = f q)) = true := by simp
              refine ⟨_, rfl, false, rfl, iteF ?_⟩
              refine ⟨_, rfl, _, rfl, N, D, dom', f, f, rfl, rfl, fN.mono s10, fD.mono s10, ?_⟩
              rw [hall]
              refine ⟨_, rfl, iteF ?_⟩
              refine ⟨_, rfl, _, rfl, _, _, .lst (.inl (.inl (s10 _ _ e9))) (hP9.mono s10).dp, .lst (.inl (.inl (s10 _ _ ho9))) (hP9.mono s10).dp, sum_shaped hA.ok, sum_shaped hA.ok, ?_⟩
              rw [SeqAt.eqv_refl _ (SeqAt.canLay_of_shaped (sum_shaped hA.ok))]
              refine ⟨_, rfl, iteF ?_⟩
              obtain ⟨u, rfl, hu⟩ := hv
              have hL := frq_low (sumW f l)
              refine ⟨_, rfl, u, _, _, rfl, hu, hL, log_small (by decide) hvb (by decide), fun H11 s11 => ⟨true, rfl, iteT ?_⟩⟩
              have s12 := s10.trans s11
              refine ⟨_, rfl, _, rfl, _, rfl, o4, D, l, dom', f, rfl, hA.mono (s49.trans s12), hSm4, h5, fD.mono s12, hf7, hgood, fun H12 v' s13 hv' => ?_⟩
              refine ⟨_, _, ⟨u, rfl, (s11.trans s13) _ _ hu⟩, hv', ?_⟩
              show Q (.bl (decide (frq (sumW f l) = frq (sumW f l)))) H12
              rw [decide_eq_true rfl]
              exact q _

theorem all_mk {P : Program} {w : World} {K : PySem.W.Frag} {h : Heap} {mg : Str → Option Value} {fa : Addr} (X : K.In h) (G : h.Ns mainGlobals mg) (hfa : mg "law" = some (.ref fa)) (c0 : obsM K = valM)
    : ∃ fd : FuncData, (∀ (s : Shared) (v : Value), BindsTo s fd ⟨[v], []⟩ [("_law_script", v)]) ∧ ∀ base : Heap, K.In base → base.Ns mainGlobals mg → FnOk P w K mg base CX0 6 fa fd ["_law_script"] (sp_law K) := by
  have c : falM.map (fun f => f K) = falM.map (fun _ => true) ∧ fnlM.map (fun d => He.fnObs K d.at_) = fnlM.map He.FnD.val := ⟨congrArg Prod.fst c0, congrArg Prod.snd c0⟩
  have e := hfa.symm.trans (PySem.W.mg_of X G (He.eqO_ok (fctM c.1 (f := faM110) (j := 110) rfl)))
  cases e
  obtain ⟨oc_lowest, od_lowest, osl_lowest, kV_lowest, doc_lowest, pm_lowest, an_lowest, cd_lowest, ct_lowest, l_lowest, c_lowest⟩ := He.fn_ok (d := dM_lowest) (fntM c.2 (d := dM_lowest) (j := 0) rfl) (fctM c.1 (f := faM39) (j := 39) rfl)
  have l1_lowest : K.lookup (He.ga K "lowest") = some ⟨oc_lowest, od_lowest, .func (PySem.W.fnOf "lowest" "lowest" (defArgs s_lowest) (defBody s_lowest) (defScope s_lowest) .none kV_lowest doc_lowest pm_lowest an_lowest cd_lowest ct_lowest), osl_lowest⟩ := l_lowest
  have F_lowest := fun_mk (st := s_lowest) l1_lowest c_lowest (fctM c.1 (f := faM38) (j := 38) rfl)
  obtain ⟨oc_worth, od_worth, osl_worth, kV_worth, doc_worth, pm_worth, an_worth, cd_worth, ct_worth, l_worth, c_worth⟩ := He.fn_ok (d := dM_worth) (fntM c.2 (d := dM_worth) (j := 1) rfl) (fctM c.1 (f := faM42) (j := 42) rfl)
  have l1_worth : K.lookup (He.ga K "worth") = some ⟨oc_worth, od_worth, .func (PySem.W.fnOf "worth" "worth" (defArgs s_worth) (defBody s_worth) (defScope s_worth) .none kV_worth doc_worth pm_worth an_worth cd_worth ct_worth), osl_worth⟩ := l_worth
  have F_worth := fun_mk (st := s_worth) l1_worth c_worth (fctM c.1 (f := faM41) (j := 41) rfl)
  obtain ⟨oc_shared_bottom, od_shared_bottom, osl_shared_bottom, kV_shared_bottom, doc_shared_bottom, pm_shared_bottom, an_shared_bottom, cd_shared_bottom, ct_shared_bottom, l_shared_bottom, c_shared_bottom⟩ := He.fn_ok (d := dM_shared_bottom) (fntM c.2 (d := dM_shared_bottom) (j := 2) rfl) (fctM c.1 (f := faM45) (j := 45) rfl)
  have l1_shared_bottom : K.lookup (He.ga K "shared_bottom") = some ⟨oc_shared_bottom, od_shared_bottom, .func (PySem.W.fnOf "shared_bottom" "shared_bottom" (defArgs s_shared_bottom) (defBody s_shared_bottom) (defScope s_shared_bottom) .none kV_shared_bottom doc_shared_bottom pm_shared_bottom an_shared_bottom cd_shared_bottom ct_shared_bottom), osl_shared_bottom⟩ := l_shared_bottom
  have F_shared_bottom := fun_mk (st := s_shared_bottom) l1_shared_bottom c_shared_bottom (fctM c.1 (f := faM44) (j := 44) rfl)
  obtain ⟨oc_row_worth, od_row_worth, osl_row_worth, kV_row_worth, doc_row_worth, pm_row_worth, an_row_worth, cd_row_worth, ct_row_worth, l_row_worth, c_row_worth⟩ := He.fn_ok (d := dM_row_worth) (fntM c.2 (d := dM_row_worth) (j := 3) rfl) (fctM c.1 (f := faM48) (j := 48) rfl)
  have l1_row_worth : K.lookup (He.ga K "row_worth") = some ⟨oc_row_worth, od_row_worth, .func (PySem.W.fnOf "row_worth" "row_worth" (defArgs s_row_worth) (defBody s_row_worth) (defScope s_row_worth) .none kV_row_worth doc_row_worth pm_row_worth an_row_worth cd_row_worth ct_row_worth), osl_row_worth⟩ := l_row_worth
  have F_row_worth := fun_mk (st := s_row_worth) l1_row_worth c_row_worth (fctM c.1 (f := faM47) (j := 47) rfl)
  obtain ⟨oc_bottom_place, od_bottom_place, osl_bottom_place, kV_bottom_place, doc_bottom_place, pm_bottom_place, an_bottom_place, cd_bottom_place, ct_bottom_place, l_bottom_place, c_bottom_place⟩ := He.fn_ok (d := dM_bottom_place) (fntM c.2 (d := dM_bottom_place) (j := 4) rfl) (fctM c.1 (f := faM51) (j := 51) rfl)
  have l1_bottom_place : K.lookup (He.ga K "bottom_place") = some ⟨oc_bottom_place, od_bottom_place, .func (PySem.W.fnOf "bottom_place" "bottom_place" (defArgs s_bottom_place) (defBody s_bottom_place) (defScope s_bottom_place) .none kV_bottom_place doc_bottom_place pm_bottom_place an_bottom_place cd_bottom_place ct_bottom_place), osl_bottom_place⟩ := l_bottom_place
  have F_bottom_place := fun_mk (st := s_bottom_place) l1_bottom_place c_bottom_place (fctM c.1 (f := faM50) (j := 50) rfl)
  obtain ⟨oc_raised, od_raised, osl_raised, kV_raised, doc_raised, pm_raised, an_raised, cd_raised, ct_raised, l_raised, c_raised⟩ := He.fn_ok (d := dM_raised) (fntM c.2 (d := dM_raised) (j := 5) rfl) (fctM c.1 (f := faM54) (j := 54) rfl)
  have l1_raised : K.lookup (He.ga K "raised") = some ⟨oc_raised, od_raised, .func (PySem.W.fnOf "raised" "raised" (defArgs s_raised) (defBody s_raised) (defScope s_raised) .none kV_raised doc_raised pm_raised an_raised cd_raised ct_raised), osl_raised⟩ := l_raised
  have F_raised := fun_mk (st := s_raised) l1_raised c_raised (fctM c.1 (f := faM53) (j := 53) rfl)
  obtain ⟨oc__law_flow, od__law_flow, osl__law_flow, kV__law_flow, doc__law_flow, pm__law_flow, an__law_flow, cd__law_flow, ct__law_flow, l__law_flow, c__law_flow⟩ := He.fn_ok (d := dM__law_flow) (fntM c.2 (d := dM__law_flow) (j := 6) rfl) (fctM c.1 (f := faM57) (j := 57) rfl)
  have l1__law_flow : K.lookup (He.ga K "_law_flow") = some ⟨oc__law_flow, od__law_flow, .func (PySem.W.fnOf "_law_flow" "_law_flow" (defArgs s__law_flow) (defBody s__law_flow) (defScope s__law_flow) .none kV__law_flow doc__law_flow pm__law_flow an__law_flow cd__law_flow ct__law_flow), osl__law_flow⟩ := l__law_flow
  have F__law_flow := fun_mk (st := s__law_flow) l1__law_flow c__law_flow (fctM c.1 (f := faM56) (j := 56) rfl)
  obtain ⟨oc__law_whole, od__law_whole, osl__law_whole, kV__law_whole, doc__law_whole, pm__law_whole, an__law_whole, cd__law_whole, ct__law_whole, l__law_whole, c__law_whole⟩ := He.fn_ok (d := dM__law_whole) (fntM c.2 (d := dM__law_whole) (j := 7) rfl) (fctM c.1 (f := faM60) (j := 60) rfl)
  have l1__law_whole : K.lookup (He.ga K "_law_whole") = some ⟨oc__law_whole, od__law_whole, .func (PySem.W.fnOf "_law_whole" "_law_whole" (defArgs s__law_whole) (defBody s__law_whole) (defScope s__law_whole) .none kV__law_whole doc__law_whole pm__law_whole an__law_whole cd__law_whole ct__law_whole), osl__law_whole⟩ := l__law_whole
  have F__law_whole := fun_mk (st := s__law_whole) l1__law_whole c__law_whole (fctM c.1 (f := faM59) (j := 59) rfl)
  obtain ⟨oc__law_low, od__law_low, osl__law_low, kV__law_low, doc__law_low, pm__law_low, an__law_low, cd__law_low, ct__law_low, l__law_low, c__law_low⟩ := He.fn_ok (d := dM__law_low) (fntM c.2 (d := dM__law_low) (j := 8) rfl) (fctM c.1 (f := faM63) (j := 63) rfl)
  have l1__law_low : K.lookup (He.ga K "_law_low") = some ⟨oc__law_low, od__law_low, .func (PySem.W.fnOf "_law_low" "_law_low" (defArgs s__law_low) (defBody s__law_low) (defScope s__law_low) .none kV__law_low doc__law_low pm__law_low an__law_low cd__law_low ct__law_low), osl__law_low⟩ := l__law_low
  have F__law_low := fun_mk (st := s__law_low) l1__law_low c__law_low (fctM c.1 (f := faM62) (j := 62) rfl)
  obtain ⟨oc__law_add, od__law_add, osl__law_add, kV__law_add, doc__law_add, pm__law_add, an__law_add, cd__law_add, ct__law_add, l__law_add, c__law_add⟩ := He.fn_ok (d := dM__law_add) (fntM c.2 (d := dM__law_add) (j := 9) rfl) (fctM c.1 (f := faM66) (j := 66) rfl)
  have l1__law_add : K.lookup (He.ga K "_law_add") = some ⟨oc__law_add, od__law_add, .func (PySem.W.fnOf "_law_add" "_law_add" (defArgs s__law_add) (defBody s__law_add) (defScope s__law_add) .none kV__law_add doc__law_add pm__law_add an__law_add cd__law_add ct__law_add), osl__law_add⟩ := l__law_add
  have F__law_add := fun_mk (st := s__law_add) l1__law_add c__law_add (fctM c.1 (f := faM65) (j := 65) rfl)
  obtain ⟨oc__law_mul, od__law_mul, osl__law_mul, kV__law_mul, doc__law_mul, pm__law_mul, an__law_mul, cd__law_mul, ct__law_mul, l__law_mul, c__law_mul⟩ := He.fn_ok (d := dM__law_mul) (fntM c.2 (d := dM__law_mul) (j := 10) rfl) (fctM c.1 (f := faM69) (j := 69) rfl)
  have l1__law_mul : K.lookup (He.ga K "_law_mul") = some ⟨oc__law_mul, od__law_mul, .func (PySem.W.fnOf "_law_mul" "_law_mul" (defArgs s__law_mul) (defBody s__law_mul) (defScope s__law_mul) .none kV__law_mul doc__law_mul pm__law_mul an__law_mul cd__law_mul ct__law_mul), osl__law_mul⟩ := l__law_mul
  have F__law_mul := fun_mk (st := s__law_mul) l1__law_mul c__law_mul (fctM c.1 (f := faM68) (j := 68) rfl)
  obtain ⟨oc__law_div, od__law_div, osl__law_div, kV__law_div, doc__law_div, pm__law_div, an__law_div, cd__law_div, ct__law_div, l__law_div, c__law_div⟩ := He.fn_ok (d := dM__law_div) (fntM c.2 (d := dM__law_div) (j := 11) rfl) (fctM c.1 (f := faM72) (j := 72) rfl)
  have l1__law_div : K.lookup (He.ga K "_law_div") = some ⟨oc__law_div, od__law_div, .func (PySem.W.fnOf "_law_div" "_law_div" (defArgs s__law_div) (defBody s__law_div) (defScope s__law_div) .none kV__law_div doc__law_div pm__law_div an__law_div cd__law_div ct__law_div), osl__law_div⟩ := l__law_div
  have F__law_div := fun_mk (st := s__law_div) l1__law_div c__law_div (fctM c.1 (f := faM71) (j := 71) rfl)
  obtain ⟨oc__law_part, od__law_part, osl__law_part, kV__law_part, doc__law_part, pm__law_part, an__law_part, cd__law_part, ct__law_part, l__law_part, c__law_part⟩ := He.fn_ok (d := dM__law_part) (fntM c.2 (d := dM__law_part) (j := 12) rfl) (fctM c.1 (f := faM75) (j := 75) rfl)
  have l1__law_part : K.lookup (He.ga K "_law_part") = some ⟨oc__law_part, od__law_part, .func (PySem.W.fnOf "_law_part" "_law_part" (defArgs s__law_part) (defBody s__law_part) (defScope s__law_part) .none kV__law_part doc__law_part pm__law_part an__law_part cd__law_part ct__law_part), osl__law_part⟩ := l__law_part
  have F__law_part := fun_mk (st := s__law_part) l1__law_part c__law_part (fctM c.1 (f := faM74) (j := 74) rfl)
  obtain ⟨oc__law_size, od__law_size, osl__law_size, kV__law_size, doc__law_size, pm__law_size, an__law_size, cd__law_size, ct__law_size, l__law_size, c__law_size⟩ := He.fn_ok (d := dM__law_size) (fntM c.2 (d := dM__law_size) (j := 13) rfl) (fctM c.1 (f := faM78) (j := 78) rfl)
  have l1__law_size : K.lookup (He.ga K "_law_size") = some ⟨oc__law_size, od__law_size, .func (PySem.W.fnOf "_law_size" "_law_size" (defArgs s__law_size) (defBody s__law_size) (defScope s__law_size) .none kV__law_size doc__law_size pm__law_size an__law_size cd__law_size ct__law_size), osl__law_size⟩ := l__law_size
  have F__law_size := fun_mk (st := s__law_size) l1__law_size c__law_size (fctM c.1 (f := faM77) (j := 77) rfl)
  obtain ⟨oc__law_row_times, od__law_row_times, osl__law_row_times, kV__law_row_times, doc__law_row_times, pm__law_row_times, an__law_row_times, cd__law_row_times, ct__law_row_times, l__law_row_times, c__law_row_times⟩ := He.fn_ok (d := dM__law_row_times) (fntM c.2 (d := dM__law_row_times) (j := 14) rfl) (fctM c.1 (f := faM81) (j := 81) rfl)
  have l1__law_row_times : K.lookup (He.ga K "_law_row_times") = some ⟨oc__law_row_times, od__law_row_times, .func (PySem.W.fnOf "_law_row_times" "_law_row_times" (defArgs s__law_row_times) (defBody s__law_row_times) (defScope s__law_row_times) .none kV__law_row_times doc__law_row_times pm__law_row_times an__law_row_times cd__law_row_times ct__law_row_times), osl__law_row_times⟩ := l__law_row_times
  have F__law_row_times := fun_mk (st := s__law_row_times) l1__law_row_times c__law_row_times (fctM c.1 (f := faM80) (j := 80) rfl)
  obtain ⟨oc__law_settled, od__law_settled, osl__law_settled, kV__law_settled, doc__law_settled, pm__law_settled, an__law_settled, cd__law_settled, ct__law_settled, l__law_settled, c__law_settled⟩ := He.fn_ok (d := dM__law_settled) (fntM c.2 (d := dM__law_settled) (j := 15) rfl) (fctM c.1 (f := faM84) (j := 84) rfl)
  have l1__law_settled : K.lookup (He.ga K "_law_settled") = some ⟨oc__law_settled, od__law_settled, .func (PySem.W.fnOf "_law_settled" "_law_settled" (defArgs s__law_settled) (defBody s__law_settled) (defScope s__law_settled) .none kV__law_settled doc__law_settled pm__law_settled an__law_settled cd__law_settled ct__law_settled), osl__law_settled⟩ := l__law_settled
  have F__law_settled := fun_mk (st := s__law_settled) l1__law_settled c__law_settled (fctM c.1 (f := faM83) (j := 83) rfl)
  obtain ⟨oc__law_times, od__law_times, osl__law_times, kV__law_times, doc__law_times, pm__law_times, an__law_times, cd__law_times, ct__law_times, l__law_times, c__law_times⟩ := He.fn_ok (d := dM__law_times) (fntM c.2 (d := dM__law_times) (j := 16) rfl) (fctM c.1 (f := faM87) (j := 87) rfl)
  have l1__law_times : K.lookup (He.ga K "_law_times") = some ⟨oc__law_times, od__law_times, .func (PySem.W.fnOf "_law_times" "_law_times" (defArgs s__law_times) (defBody s__law_times) (defScope s__law_times) .none kV__law_times doc__law_times pm__law_times an__law_times cd__law_times ct__law_times), osl__law_times⟩ := l__law_times
  have F__law_times := fun_mk (st := s__law_times) l1__law_times c__law_times (fctM c.1 (f := faM86) (j := 86) rfl)
  obtain ⟨oc__law_draw_sum, od__law_draw_sum, osl__law_draw_sum, kV__law_draw_sum, doc__law_draw_sum, pm__law_draw_sum, an__law_draw_sum, cd__law_draw_sum, ct__law_draw_sum, l__law_draw_sum, c__law_draw_sum⟩ := He.fn_ok (d := dM__law_draw_sum) (fntM c.2 (d := dM__law_draw_sum) (j := 17) rfl) (fctM c.1 (f := faM90) (j := 90) rfl)
  have l1__law_draw_sum : K.lookup (He.ga K "_law_draw_sum") = some ⟨oc__law_draw_sum, od__law_draw_sum, .func (PySem.W.fnOf "_law_draw_sum" "_law_draw_sum" (defArgs s__law_draw_sum) (defBody s__law_draw_sum) (defScope s__law_draw_sum) .none kV__law_draw_sum doc__law_draw_sum pm__law_draw_sum an__law_draw_sum cd__law_draw_sum ct__law_draw_sum), osl__law_draw_sum⟩ := l__law_draw_sum
  have F__law_draw_sum := fun_mk (st := s__law_draw_sum) l1__law_draw_sum c__law_draw_sum (fctM c.1 (f := faM89) (j := 89) rfl)
  obtain ⟨oc__law_worth, od__law_worth, osl__law_worth, kV__law_worth, doc__law_worth, pm__law_worth, an__law_worth, cd__law_worth, ct__law_worth, l__law_worth, c__law_worth⟩ := He.fn_ok (d := dM__law_worth) (fntM c.2 (d := dM__law_worth) (j := 18) rfl) (fctM c.1 (f := faM93) (j := 93) rfl)
  have l1__law_worth : K.lookup (He.ga K "_law_worth") = some ⟨oc__law_worth, od__law_worth, .func (PySem.W.fnOf "_law_worth" "_law_worth" (defArgs s__law_worth) (defBody s__law_worth) (defScope s__law_worth) .none kV__law_worth doc__law_worth pm__law_worth an__law_worth cd__law_worth ct__law_worth), osl__law_worth⟩ := l__law_worth
  have F__law_worth := fun_mk (st := s__law_worth) l1__law_worth c__law_worth (fctM c.1 (f := faM92) (j := 92) rfl)
  obtain ⟨oc_law, od_law, osl_law, kV_law, doc_law, pm_law, an_law, cd_law, ct_law, l_law, c_law⟩ := He.fn_ok (d := dM_law) (fntM c.2 (d := dM_law) (j := 19) rfl) (fctM c.1 (f := faM96) (j := 96) rfl)
  have l1_law : K.lookup (He.ga K "law") = some ⟨oc_law, od_law, .func (PySem.W.fnOf "law" "law" (defArgs s_law) (defBody s_law) (defScope s_law) .none kV_law doc_law pm_law an_law cd_law ct_law), osl_law⟩ := l_law
  have F_law := fun_mk (st := s_law) l1_law c_law (fctM c.1 (f := faM95) (j := 95) rfl)
  let T : Env K mg := { C_MeadError := (He.ga K "MeadError"), c_MeadError := (PySem.W.mg_of X G (He.eqO_ok (fctM c.1 (f := faM8) (j := 8) rfl))), x_MeadError := (fctM c.1 (f := faM9) (j := 9) rfl), k_MeadError := (fctM c.1 (f := faM10) (j := 10) rfl), bs_MeadError := (of_decide_eq_true (fctM c.1 (f := faM0) (j := 0) rfl)), ty_MeadError := (of_decide_eq_true (fctM c.1 (f := faM11) (j := 11) rfl)), e_MeadError := ⟨(He.eqO_ok (fctM c.1 (f := faM1) (j := 1) rfl)), (He.eqO_ok (fctM c.1 (f := faM2) (j := 2) rfl)), (of_decide_eq_true (fctM c.1 (f := faM0) (j := 0) rfl)), (fctM c.1 (f := faM3) (j := 3) rfl), (He.eqO_ok (fctM c.1 (f := faM4) (j := 4) rfl)), (He.eqO_ok (fctM c.1 (f := faM5) (j := 5) rfl)), (of_decide_eq_true (fctM c.1 (f := faM6) (j := 6) rfl)), (of_decide_eq_true (fctM c.1 (f := faM7) (j := 7) rfl))⟩, C_NoFraction := (He.ga K "NoFraction"), c_NoFraction := (PySem.W.mg_of X G (He.eqO_ok (fctM c.1 (f := faM20) (j := 20) rfl))), x_NoFraction := (fctM c.1 (f := faM21) (j := 21) rfl), k_NoFraction := (fctM c.1 (f := faM22) (j := 22) rfl), bs_NoFraction := (of_decide_eq_true (fctM c.1 (f := faM12) (j := 12) rfl)), ty_NoFraction := (of_decide_eq_true (fctM c.1 (f := faM23) (j := 23) rfl)), e_NoFraction := ⟨(He.eqO_ok (fctM c.1 (f := faM13) (j := 13) rfl)), (He.eqO_ok (fctM c.1 (f := faM14) (j := 14) rfl)), (of_decide_eq_true (fctM c.1 (f := faM12) (j := 12) rfl)), (fctM c.1 (f := faM15) (j := 15) rfl), (He.eqO_ok (fctM c.1 (f := faM16) (j := 16) rfl)), (He.eqO_ok (fctM c.1 (f := faM17) (j := 17) rfl)), (of_decide_eq_true (fctM c.1 (f := faM18) (j := 18) rfl)), (of_decide_eq_true (fctM c.1 (f := faM19) (j := 19) rfl))⟩, C_NoLetter := (He.ga K "NoLetter"), c_NoLetter := (PySem.W.mg_of X G (He.eqO_ok (fctM c.1 (f := faM32) (j := 32) rfl))), x_NoLetter := (fctM c.1 (f := faM33) (j := 33) rfl), k_NoLetter := (fctM c.1 (f := faM34) (j := 34) rfl), bs_NoLetter := (of_decide_eq_true (fctM c.1 (f := faM24) (j := 24) rfl)), ty_NoLetter := (of_decide_eq_true (fctM c.1 (f := faM35) (j := 35) rfl)), e_NoLetter := ⟨(He.eqO_ok (fctM c.1 (f := faM25) (j := 25) rfl)), (He.eqO_ok (fctM c.1 (f := faM26) (j := 26) rfl)), (of_decide_eq_true (fctM c.1 (f := faM24) (j := 24) rfl)), (fctM c.1 (f := faM27) (j := 27) rfl), (He.eqO_ok (fctM c.1 (f := faM28) (j := 28) rfl)), (He.eqO_ok (fctM c.1 (f := faM29) (j := 29) rfl)), (of_decide_eq_true (fctM c.1 (f := faM30) (j := 30) rfl)), (of_decide_eq_true (fctM c.1 (f := faM31) (j := 31) rfl))⟩, sub_NoLetter_MeadError := (of_decide_eq_true (fctM c.1 (f := faM36) (j := 36) rfl)), kit_NoLetter_NoLetter := (of_decide_eq_true (fctM c.1 (f := faM37) (j := 37) rfl)), a_lowest := (He.ga K "lowest"), fd_lowest := _, F_lowest := F_lowest, g_lowest := (PySem.W.mg_of X G (He.eqO_ok (fctM c.1 (f := faM40) (j := 40) rfl))), b_lowest := F_lowest.binds (ps := ["top", "bottom"]) fun _ _ _ _ _ _ us hl => match us, hl with | [_, _], _ => rfl, a_worth := (He.ga K "worth"), fd_worth := _, F_worth := F_worth, g_worth := (PySem.W.mg_of X G (He.eqO_ok (fctM c.1 (f := faM43) (j := 43) rfl))), b_worth := F_worth.binds (ps := ["one", "lengths"]) fun _ _ _ _ _ _ us hl => match us, hl with | [_, _], _ => rfl, a_shared_bottom := (He.ga K "shared_bottom"), fd_shared_bottom := _, F_shared_bottom := F_shared_bottom, g_shared_bottom := (PySem.W.mg_of X G (He.eqO_ok (fctM c.1 (f := faM46) (j := 46) rfl))), b_shared_bottom := F_shared_bottom.binds (ps := ["one", "lengths"]) fun _ _ _ _ _ _ us hl => match us, hl with | [_, _], _ => rfl, a_row_worth := (He.ga K "row_worth"), fd_row_worth := _, F_row_worth := F_row_worth, g_row_worth := (PySem.W.mg_of X G (He.eqO_ok (fctM c.1 (f := faM49) (j := 49) rfl))), b_row_worth := F_row_worth.binds (ps := ["row", "lengths"]) fun _ _ _ _ _ _ us hl => match us, hl with | [_, _], _ => rfl, a_bottom_place := (He.ga K "bottom_place"), fd_bottom_place := _, F_bottom_place := F_bottom_place, g_bottom_place := (PySem.W.mg_of X G (He.eqO_ok (fctM c.1 (f := faM52) (j := 52) rfl))), b_bottom_place := F_bottom_place.binds (ps := ["power"]) fun _ _ _ _ _ _ us hl => match us, hl with | [_], _ => rfl, a_raised := (He.ga K "raised"), fd_raised := _, F_raised := F_raised, g_raised := (PySem.W.mg_of X G (He.eqO_ok (fctM c.1 (f := faM55) (j := 55) rfl))), b_raised := F_raised.binds (ps := ["base", "power"]) fun _ _ _ _ _ _ us hl => match us, hl with | [_, _], _ => rfl, a__law_flow := (He.ga K "_law_flow"), fd__law_flow := _, F__law_flow := F__law_flow, g__law_flow := (PySem.W.mg_of X G (He.eqO_ok (fctM c.1 (f := faM58) (j := 58) rfl))), b__law_flow := F__law_flow.binds (ps := ["_law_script", "_law_many"]) fun _ _ _ _ _ _ us hl => match us, hl with | [_, _], _ => rfl, a__law_whole := (He.ga K "_law_whole"), fd__law_whole := _, F__law_whole := F__law_whole, g__law_whole := (PySem.W.mg_of X G (He.eqO_ok (fctM c.1 (f := faM61) (j := 61) rfl))), b__law_whole := F__law_whole.binds (ps := ["_law_found"]) fun _ _ _ _ _ _ us hl => match us, hl with | [_], _ => rfl, a__law_low := (He.ga K "_law_low"), fd__law_low := _, F__law_low := F__law_low, g__law_low := (PySem.W.mg_of X G (He.eqO_ok (fctM c.1 (f := faM64) (j := 64) rfl))), b__law_low := F__law_low.binds (ps := ["_law_top", "_law_bottom"]) fun _ _ _ _ _ _ us hl => match us, hl with | [_, _], _ => rfl, a__law_add := (He.ga K "_law_add"), fd__law_add := _, F__law_add := F__law_add, g__law_add := (PySem.W.mg_of X G (He.eqO_ok (fctM c.1 (f := faM67) (j := 67) rfl))), b__law_add := F__law_add.binds (ps := ["_law_one", "_law_other"]) fun _ _ _ _ _ _ us hl => match us, hl with | [_, _], _ => rfl, a__law_mul := (He.ga K "_law_mul"), fd__law_mul := _, F__law_mul := F__law_mul, g__law_mul := (PySem.W.mg_of X G (He.eqO_ok (fctM c.1 (f := faM70) (j := 70) rfl))), b__law_mul := F__law_mul.binds (ps := ["_law_one", "_law_other"]) fun _ _ _ _ _ _ us hl => match us, hl with | [_, _], _ => rfl, a__law_div := (He.ga K "_law_div"), fd__law_div := _, F__law_div := F__law_div, g__law_div := (PySem.W.mg_of X G (He.eqO_ok (fctM c.1 (f := faM73) (j := 73) rfl))), b__law_div := F__law_div.binds (ps := ["_law_one", "_law_other"]) fun _ _ _ _ _ _ us hl => match us, hl with | [_, _], _ => rfl, a__law_part := (He.ga K "_law_part"), fd__law_part := _, F__law_part := F__law_part, g__law_part := (PySem.W.mg_of X G (He.eqO_ok (fctM c.1 (f := faM76) (j := 76) rfl))), b__law_part := F__law_part.binds (ps := ["_law_found"]) fun _ _ _ _ _ _ us hl => match us, hl with | [_], _ => rfl, a__law_size := (He.ga K "_law_size"), fd__law_size := _, F__law_size := F__law_size, g__law_size := (PySem.W.mg_of X G (He.eqO_ok (fctM c.1 (f := faM79) (j := 79) rfl))), b__law_size := F__law_size.binds (ps := ["_law_one"]) fun _ _ _ _ _ _ us hl => match us, hl with | [_], _ => rfl, a__law_row_times := (He.ga K "_law_row_times"), fd__law_row_times := _, F__law_row_times := F__law_row_times, g__law_row_times := (PySem.W.mg_of X G (He.eqO_ok (fctM c.1 (f := faM82) (j := 82) rfl))), b__law_row_times := F__law_row_times.binds (ps := ["_law_one", "_law_other"]) fun _ _ _ _ _ _ us hl => match us, hl with | [_, _], _ => rfl, a__law_settled := (He.ga K "_law_settled"), fd__law_settled := _, F__law_settled := F__law_settled, g__law_settled := (PySem.W.mg_of X G (He.eqO_ok (fctM c.1 (f := faM85) (j := 85) rfl))), b__law_settled := F__law_settled.binds (ps := ["_law_terms"]) fun _ _ _ _ _ _ us hl => match us, hl with | [_], _ => rfl, a__law_times := (He.ga K "_law_times"), fd__law_times := _, F__law_times := F__law_times, g__law_times := (PySem.W.mg_of X G (He.eqO_ok (fctM c.1 (f := faM88) (j := 88) rfl))), b__law_times := F__law_times.binds (ps := ["_law_one", "_law_other"]) fun _ _ _ _ _ _ us hl => match us, hl with | [_, _], _ => rfl, a__law_draw_sum := (He.ga K "_law_draw_sum"), fd__law_draw_sum := _, F__law_draw_sum := F__law_draw_sum, g__law_draw_sum := (PySem.W.mg_of X G (He.eqO_ok (fctM c.1 (f := faM91) (j := 91) rfl))), b__law_draw_sum := F__law_draw_sum.binds (ps := ["_law_row", "_law_terms", "_law_marks"]) fun _ _ _ _ _ _ us hl => match us, hl with | [_, _, _], _ => rfl, a__law_worth := (He.ga K "_law_worth"), fd__law_worth := _, F__law_worth := F__law_worth, g__law_worth := (PySem.W.mg_of X G (He.eqO_ok (fctM c.1 (f := faM94) (j := 94) rfl))), b__law_worth := F__law_worth.binds (ps := ["_law_one", "_law_lengths"]) fun _ _ _ _ _ _ us hl => match us, hl with | [_, _], _ => rfl, a_law := (He.ga K "law"), fd_law := _, F_law := F_law, g_law := (PySem.W.mg_of X G (He.eqO_ok (fctM c.1 (f := faM97) (j := 97) rfl))), b_law := F_law.binds (ps := ["_law_script"]) fun _ _ _ _ _ _ us hl => match us, hl with | [_], _ => rfl, m_abs := PySem.W.mg_none_of X G (He.eqO_ok (fctM c.1 (f := faM98) (j := 98) rfl)), m_bool := PySem.W.mg_none_of X G (He.eqO_ok (fctM c.1 (f := faM99) (j := 99) rfl)), m_dict := PySem.W.mg_none_of X G (He.eqO_ok (fctM c.1 (f := faM100) (j := 100) rfl)), m_int := PySem.W.mg_none_of X G (He.eqO_ok (fctM c.1 (f := faM101) (j := 101) rfl)), m_isinstance := PySem.W.mg_none_of X G (He.eqO_ok (fctM c.1 (f := faM102) (j := 102) rfl)), m_len := PySem.W.mg_none_of X G (He.eqO_ok (fctM c.1 (f := faM103) (j := 103) rfl)), m_list := PySem.W.mg_none_of X G (He.eqO_ok (fctM c.1 (f := faM104) (j := 104) rfl)), m_max := PySem.W.mg_none_of X G (He.eqO_ok (fctM c.1 (f := faM105) (j := 105) rfl)), m_range := PySem.W.mg_none_of X G (He.eqO_ok (fctM c.1 (f := faM106) (j := 106) rfl)), m_sorted := PySem.W.mg_none_of X G (He.eqO_ok (fctM c.1 (f := faM107) (j := 107) rfl)), m_tuple := PySem.W.mg_none_of X G (He.eqO_ok (fctM c.1 (f := faM108) (j := 108) rfl)), m_gcd := (PySem.W.mg_of X G (He.eqO_ok (fctM c.1 (f := faM109) (j := 109) rfl))) }
  exact ⟨PySem.W.fnOf "law" "law" (defArgs s_law) (defBody s_law) (defScope s_law) .none kV_law doc_law pm_law an_law cd_law ct_law, fun s v => .of_eq rfl, fun base _ _ => ok_law T⟩
end
end My
open PySem PySem.W PySem.Calls PyProof.Rows
set_option maxRecDepth 100000 in
set_option maxHeartbeats 0 in
theorem PySem.Challenge.cw_postmead_k06_letters_worth_holds : PySem.Challenge.rw_postmead_k06_letters_worth.Holds := by
  w_on; o_law
  refine HandSHeadRun.head_imp (r := OpenLaw.row PySem.Challenge.rw_postmead_k06_letters_worth) (q := view (OpenLaw.row PySem.Challenge.rw_postmead_k06_letters_worth).prog [27]) (H := My.hkM) (ob := My.obM) (M := 9000) (loose := My.looM) (d := HandSHeadRun.topDef (OpenLaw.row PySem.Challenge.rw_postmead_k06_letters_worth).prog 27) (kwd := []) My.obM_eq
    My.runM (by kernel_rfl) (by kernel_rfl) (by kernel_rfl) (by rfl) (by first | assumption | decide +kernel) (by decide +kernel) ⟨rfl, rfl, rfl, rfl, rfl, by decide +kernel⟩ ?hw ?hc
  case hw => w_witness2
  case hc =>
    refine L2.walk_ofE (l := PySem.Challenge.rw_postmead_k06_letters_worth) (n := 63) (k := 6) (x := "_law_script") (CX := L2.CX0) rfl (by decide) (by kernel_rfl) ⟨rfl, by decide, by decide⟩ ?F (fun _ _ _ _ z => z)
    intro w mg fa h Y G hmg0
    obtain ⟨K, KX, c⟩ := Y
    have hmg : mg ("law" : PySem.Str) = some (.ref fa) := by
      have e : (HandSHeadRun.topDef (OpenLaw.row PySem.Challenge.rw_postmead_k06_letters_worth).prog 27).name = ("law" : PySem.Str) := by kernel_rfl
      rw [← e]
      exact hmg0
    obtain ⟨fd, hb, hF⟩ := My.all_mk (P := (OpenLaw.row PySem.Challenge.rw_postmead_k06_letters_worth).prog) (w := w) KX G hmg c
    exact ⟨K, fd, My.sp_law K, KX, hb, fun H a ns hl _ hS => ⟨a, ns, rfl, hS, hl, fun _ => rfl⟩, hF⟩
#print axioms PySem.Challenge.cw_postmead_k06_letters_worth_holds
