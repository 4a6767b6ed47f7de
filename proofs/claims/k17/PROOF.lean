
import PyProof.Rows.All
import HandS.Head0
import HandS.Head1
import HandS.Head2
import HandS.Head3
import HandS.HeadEnd
import HandS.HeadHook1
import Wide.All
import OpenK.AllK
import Wide.FinOn
import HandS.ForMost
import HandS.ForExc
import HandS.Wide
import HandS.Gcd
import HandS.IsInst
import HandS.ExcIs
import HandS.Codes
import HandS.SortRule
import HandS.Deep
import KE.DataMinMax
import HandS.Conv
import HandS.Words
import HandS.Style
import HandS.Nested
import HandS.SortKw
import HandS.SetFor
import HandS.EndTab
import HandS.HeadHook4
import KE.KMinKey
import PySem.Challenge.RW_postmead_k17_whole_roads_lead
set_option Elab.async false
set_option linter.all false
set_option maxRecDepth 100000
set_option maxHeartbeats 4000000
namespace My
open PySem PySem.Spec PyProof.Rows L2
/-! ### readings: small steps -/
local macro_rules | `(tactic| walk_at "rd") => `(tactic| repeat (first
  | refine ⟨_, rfl, ?_⟩
  | refine ⟨_, _, rfl, rfl, ?_⟩
  | refine ⟨.inr ⟨by decide, by decide⟩, ?_⟩
  | refine ⟨by decide, ?_⟩))
theorem op_fdivX {X : Cx} : OpR X (binaryOp .FloorDiv) (rI (fun _ j => j ≠ 0 ∧ j.natAbs.log2 < 9000) fun i j => .int (i.fdiv j)) :=
  opI fun _ _ _ _ _ _ _ hc q => floordiv_int hc.1 q (.inl (PyProof.noPylong_of_log2 hc.2))
theorem op_mulU {X : Cx} : OpR X (binaryOp .Mult) (rI IntMulOk fun i j => .int (i * j)) := opI fun _ _ _ _ _ _ _ hc q => mul_int q hc
theorem mulL {i j : Int} (h0 : -(2 ^ 64) < i) (h1 : i < 2 ^ 64) : IntMulOk i j := CMul.ok (.inl ⟨h0, h1⟩)
theorem mulR {i j : Int} (h0 : -(2 ^ 64) < j) (h1 : j < 2 ^ 64) : IntMulOk i j := CMul.ok (.inr ⟨h0, h1⟩)
theorem nd {p : Prop} [Decidable p] (h : ¬ decide p = true) : ¬ p := fun hp => h (decide_eq_true hp)
theorem zc_of {cls : Value} {d : Option Addr} {C : Addr} {oe : Obj} (h : Zc cls d oe) (e : cls = .ref C ∧ d = none) : Zc (.ref C) none oe := by
  obtain ⟨e1, e2⟩ := e
  rw [← e1, ← e2]
  exact h
theorem same_new {H : Hp} {p : Addr} {o : HO} (h : H p = none) : Same H (upd H p o) := fun b x e => by
  rw [upd_ne (ne_of_none e h)]
  exact e
theorem same_put {H H' : Hp} {p : Addr} {o : HO} (s : Same H H') (h : H p = none) : Same H (upd H' p o) := fun b x e => by
  rw [upd_ne (ne_of_none e h)]
  exact s _ _ e
theorem log_small {n b : Nat} (h0 : 0 < b) (h : n < 2 ^ b) (h9 : b ≤ 9000) : n.log2 < 9000 := Nat.lt_of_lt_of_le (PySem.Flt.log2_lt_of h0 h) h9
theorem pss_guard {X : Cx} {b : List Stmt} {t : TS} {P : Prop} (h : P → PSs X b t) : PSs X b (fun D σ H => P ∧ t D σ H) :=
  ⟨fun pins s σ H D I q => (h q.1).run pins s σ H D I q.2⟩
def topS (i : Nat) : Stmt := PySem.Challenge.pw_postmead_k17_whole_roads_lead.main.body.getD i (.Pass ⟨0, 0, 0, 0⟩)
abbrev s_pair_of : Stmt := topS 4
theorem sc_pair_of : FnScope ["a", "b"] ["a", "b"] (defScope s_pair_of) := ⟨rfl, rfl, rfl, by decide +kernel, rfl, by decide +kernel, by decide +kernel⟩
abbrev s_sides : Stmt := topS 6
theorem sc_sides : FnScope ["n", "post"] ["n"] (defScope s_sides) := ⟨rfl, rfl, rfl, by decide +kernel, rfl, by decide +kernel, by decide +kernel⟩
abbrev s_ties : Stmt := topS 7
theorem sc_ties : FnScope ["n", "cut"] ["n", "cut"] (defScope s_ties) := ⟨rfl, rfl, rfl, by decide +kernel, rfl, by decide +kernel, by decide +kernel⟩
abbrev s_beside : Stmt := topS 8
theorem sc_beside : FnScope ["n", "cut", "a", "b", "tied", "post"] ["n", "cut", "a", "b"] (defScope s_beside) := ⟨rfl, rfl, rfl, by decide +kernel, rfl, by decide +kernel, by decide +kernel⟩
abbrev s_new_rope : Stmt := topS 9
theorem sc_new_rope : FnScope ["n", "cut", "a", "b"] ["n", "cut", "a", "b"] (defScope s_new_rope) := ⟨rfl, rfl, rfl, by decide +kernel, rfl, by decide +kernel, by decide +kernel⟩
abbrev s_turned : Stmt := topS 10
theorem sc_turned : FnScope ["n", "cut", "a", "b", "laid", "old", "rope"] ["n", "cut", "a", "b"] (defScope s_turned) := ⟨rfl, rfl, rfl, by decide +kernel, rfl, by decide +kernel, by decide +kernel⟩
abbrev s_road : Stmt := topS 12
theorem sc_road : FnScope ["n", "one", "other", "post", "ahead", "behind", "old", "_", "new"] ["n", "one", "other"] (defScope s_road) := ⟨rfl, rfl, rfl, by decide +kernel, rfl, by decide +kernel, by decide +kernel⟩
abbrev s_fan_turnings : Stmt := topS 13
theorem sc_fan_turnings : FnScope ["n", "cut", "post", "turnings", "rope", "a", "b"] ["n", "cut", "post"] (defScope s_fan_turnings) := ⟨rfl, rfl, rfl, by decide +kernel, rfl, by decide +kernel, by decide +kernel⟩
abbrev s_rope_facing : Stmt := topS 14
theorem sc_rope_facing : FnScope ["n", "cut", "post", "tied", "a", "b"] ["n", "cut", "post"] (defScope s_rope_facing) := ⟨rfl, rfl, rfl, by decide +kernel, rfl, by decide +kernel, by decide +kernel⟩
abbrev s_busiest : Stmt := topS 15
theorem sc_busiest : FnScope ["n", "ropes", "ends", "rope", "end"] ["n", "ropes"] (defScope s_busiest) := ⟨rfl, rfl, rfl, by decide +kernel, rfl, by decide +kernel, by decide +kernel⟩
abbrev s__law_flow : Stmt := topS 17
theorem sc__law_flow : FnScope ["_law_script", "_law_many_here", "_law_great", "_law_row", "_law_k", "_law_cell", "_law_mixed"] ["_law_script", "_law_many_here"] (defScope s__law_flow) := ⟨rfl, rfl, rfl, by decide +kernel, rfl, by decide +kernel, by decide +kernel⟩
abbrev s__law_whole : Stmt := topS 18
theorem sc__law_whole : FnScope ["_law_found"] ["_law_found"] (defScope s__law_whole) := ⟨rfl, rfl, rfl, by decide +kernel, rfl, by decide +kernel, by decide +kernel⟩
abbrev s__law_many : Stmt := topS 19
theorem sc__law_many : FnScope ["_law_row"] ["_law_row"] (defScope s__law_many) := ⟨rfl, rfl, rfl, by decide +kernel, rfl, by decide +kernel, by decide +kernel⟩
abbrev s__law_pair : Stmt := topS 20
theorem sc__law_pair : FnScope ["_law_a", "_law_b"] ["_law_a", "_law_b"] (defScope s__law_pair) := ⟨rfl, rfl, rfl, by decide +kernel, rfl, by decide +kernel, by decide +kernel⟩
abbrev s__law_ears : Stmt := topS 21
theorem sc__law_ears : FnScope ["_law_n", "_law_row", "_law_k", "_law_left", "_law_ears_here"] ["_law_n", "_law_row"] (defScope s__law_ears) := ⟨rfl, rfl, rfl, by decide +kernel, rfl, by decide +kernel, by decide +kernel⟩
abbrev s__law_ropes : Stmt := topS 22
theorem sc__law_ropes : FnScope ["_law_ears_here", "_law_ear"] ["_law_ears_here"] (defScope s__law_ropes) := ⟨rfl, rfl, rfl, by decide +kernel, rfl, by decide +kernel, by decide +kernel⟩
abbrev s__law_sides : Stmt := topS 23
theorem sc__law_sides : FnScope ["_law_n", "_law_k"] ["_law_n"] (defScope s__law_sides) := ⟨rfl, rfl, rfl, by decide +kernel, rfl, by decide +kernel, by decide +kernel⟩
abbrev s__law_ties : Stmt := topS 24
theorem sc__law_ties : FnScope ["_law_n", "_law_cut"] ["_law_n", "_law_cut"] (defScope s__law_ties) := ⟨rfl, rfl, rfl, by decide +kernel, rfl, by decide +kernel, by decide +kernel⟩
abbrev s__law_beside : Stmt := topS 25
theorem sc__law_beside : FnScope ["_law_n", "_law_all_ties", "_law_a", "_law_b", "_law_found", "_law_post"] ["_law_n", "_law_all_ties", "_law_a", "_law_b"] (defScope s__law_beside) := ⟨rfl, rfl, rfl, by decide +kernel, rfl, by decide +kernel, by decide +kernel⟩
abbrev s__law_turned : Stmt := topS 26
theorem sc__law_turned : FnScope ["_law_n", "_law_cut", "_law_rope", "_law_ends", "_law_one"] ["_law_n", "_law_cut", "_law_rope"] (defScope s__law_turned) := ⟨rfl, rfl, rfl, by decide +kernel, rfl, by decide +kernel, by decide +kernel⟩
abbrev s__law_tuple : Stmt := topS 27
theorem sc__law_tuple : FnScope ["_law_found", "_law_many_here", "_law_one"] ["_law_found", "_law_many_here"] (defScope s__law_tuple) := ⟨rfl, rfl, rfl, by decide +kernel, rfl, by decide +kernel, by decide +kernel⟩
abbrev s__law_list : Stmt := topS 28
theorem sc__law_list : FnScope ["_law_found", "_law_many_here", "_law_one"] ["_law_found", "_law_many_here"] (defScope s__law_list) := ⟨rfl, rfl, rfl, by decide +kernel, rfl, by decide +kernel, by decide +kernel⟩
abbrev s__law_walk : Stmt := topS 29
theorem sc__law_walk : FnScope ["_law_n", "_law_cut", "_law_found", "_law_rope"] ["_law_n", "_law_cut", "_law_found"] (defScope s__law_walk) := ⟨rfl, rfl, rfl, by decide +kernel, rfl, by decide +kernel, by decide +kernel⟩
abbrev s__law_away : Stmt := topS 30
theorem sc__law_away : FnScope ["_law_cut", "_law_post", "_law_rope"] ["_law_cut", "_law_post"] (defScope s__law_away) := ⟨rfl, rfl, rfl, by decide +kernel, rfl, by decide +kernel, by decide +kernel⟩
abbrev s_law : Stmt := topS 31
theorem sc_law : FnScope ["_law_script", "_law_row", "_law_n", "_law_one", "_law_other", "_law_handed", "_law_found", "_law_end", "_law_post"] ["_law_script"] (defScope s_law) := ⟨rfl, rfl, rfl, by decide +kernel, rfl, by decide +kernel, by decide +kernel⟩
structure Env (K : PySem.W.Frag) (mg : Str → Option Value) where
  C_MeadError : Addr
  c_MeadError : mg "MeadError" = some (.ref C_MeadError)
  x_MeadError : PySem.W.excIn K C_MeadError [.type "ValueError", .type "Exception", .type "BaseException", .type "object"] "ValueError.__new__" = true
  k_MeadError : PySem.W.keepIn K (.ref C_MeadError) = true
  bs_MeadError : PySem.W.subIn K (.ref C_MeadError) (.type "BaseException") = some true
  ty_MeadError : PySem.W.typeIn K (.ref C_MeadError) = some (.type "type")
  e_MeadError : ExcC K C_MeadError
  C_NoRope : Addr
  c_NoRope : mg "NoRope" = some (.ref C_NoRope)
  x_NoRope : PySem.W.excIn K C_NoRope [.type "ValueError", .type "Exception", .type "BaseException", .type "object"] "ValueError.__new__" = true
  k_NoRope : PySem.W.keepIn K (.ref C_NoRope) = true
  bs_NoRope : PySem.W.subIn K (.ref C_NoRope) (.type "BaseException") = some true
  ty_NoRope : PySem.W.typeIn K (.ref C_NoRope) = some (.type "type")
  e_NoRope : ExcC K C_NoRope
  a_pair_of : Addr
  fd_pair_of : FuncData
  F_pair_of : Fun K "pair_of" "pair_of" s_pair_of a_pair_of fd_pair_of
  g_pair_of : mg "pair_of" = some (.ref a_pair_of)
  b_pair_of : Binds K fd_pair_of ["a", "b"] []
  a_sides : Addr
  fd_sides : FuncData
  F_sides : Fun K "sides" "sides" s_sides a_sides fd_sides
  g_sides : mg "sides" = some (.ref a_sides)
  b_sides : Binds K fd_sides ["n"] []
  a_ties : Addr
  fd_ties : FuncData
  F_ties : Fun K "ties" "ties" s_ties a_ties fd_ties
  g_ties : mg "ties" = some (.ref a_ties)
  b_ties : Binds K fd_ties ["n", "cut"] []
  a_beside : Addr
  fd_beside : FuncData
  F_beside : Fun K "beside" "beside" s_beside a_beside fd_beside
  g_beside : mg "beside" = some (.ref a_beside)
  b_beside : Binds K fd_beside ["n", "cut", "a", "b"] []
  a_new_rope : Addr
  fd_new_rope : FuncData
  F_new_rope : Fun K "new_rope" "new_rope" s_new_rope a_new_rope fd_new_rope
  g_new_rope : mg "new_rope" = some (.ref a_new_rope)
  b_new_rope : Binds K fd_new_rope ["n", "cut", "a", "b"] []
  a_turned : Addr
  fd_turned : FuncData
  F_turned : Fun K "turned" "turned" s_turned a_turned fd_turned
  g_turned : mg "turned" = some (.ref a_turned)
  b_turned : Binds K fd_turned ["n", "cut", "a", "b"] []
  a_road : Addr
  fd_road : FuncData
  F_road : Fun K "road" "road" s_road a_road fd_road
  g_road : mg "road" = some (.ref a_road)
  b_road : Binds K fd_road ["n", "one", "other"] []
  a_fan_turnings : Addr
  fd_fan_turnings : FuncData
  F_fan_turnings : Fun K "fan_turnings" "fan_turnings" s_fan_turnings a_fan_turnings fd_fan_turnings
  g_fan_turnings : mg "fan_turnings" = some (.ref a_fan_turnings)
  b_fan_turnings : Binds K fd_fan_turnings ["n", "cut", "post"] []
  a_rope_facing : Addr
  fd_rope_facing : FuncData
  F_rope_facing : Fun K "rope_facing" "rope_facing" s_rope_facing a_rope_facing fd_rope_facing
  g_rope_facing : mg "rope_facing" = some (.ref a_rope_facing)
  b_rope_facing : Binds K fd_rope_facing ["n", "cut", "post"] []
  a_busiest : Addr
  fd_busiest : FuncData
  F_busiest : Fun K "busiest" "busiest" s_busiest a_busiest fd_busiest
  g_busiest : mg "busiest" = some (.ref a_busiest)
  b_busiest : Binds K fd_busiest ["n", "ropes"] []
  a__law_flow : Addr
  fd__law_flow : FuncData
  F__law_flow : Fun K "_law_flow" "_law_flow" s__law_flow a__law_flow fd__law_flow
  g__law_flow : mg "_law_flow" = some (.ref a__law_flow)
  b__law_flow : Binds K fd__law_flow ["_law_script", "_law_many_here"] []
  a__law_whole : Addr
  fd__law_whole : FuncData
  F__law_whole : Fun K "_law_whole" "_law_whole" s__law_whole a__law_whole fd__law_whole
  g__law_whole : mg "_law_whole" = some (.ref a__law_whole)
  b__law_whole : Binds K fd__law_whole ["_law_found"] []
  a__law_many : Addr
  fd__law_many : FuncData
  F__law_many : Fun K "_law_many" "_law_many" s__law_many a__law_many fd__law_many
  g__law_many : mg "_law_many" = some (.ref a__law_many)
  b__law_many : Binds K fd__law_many ["_law_row"] []
  a__law_pair : Addr
  fd__law_pair : FuncData
  F__law_pair : Fun K "_law_pair" "_law_pair" s__law_pair a__law_pair fd__law_pair
  g__law_pair : mg "_law_pair" = some (.ref a__law_pair)
  b__law_pair : Binds K fd__law_pair ["_law_a", "_law_b"] []
  a__law_ears : Addr
  fd__law_ears : FuncData
  F__law_ears : Fun K "_law_ears" "_law_ears" s__law_ears a__law_ears fd__law_ears
  g__law_ears : mg "_law_ears" = some (.ref a__law_ears)
  b__law_ears : Binds K fd__law_ears ["_law_n", "_law_row"] []
  a__law_ropes : Addr
  fd__law_ropes : FuncData
  F__law_ropes : Fun K "_law_ropes" "_law_ropes" s__law_ropes a__law_ropes fd__law_ropes
  g__law_ropes : mg "_law_ropes" = some (.ref a__law_ropes)
  b__law_ropes : Binds K fd__law_ropes ["_law_ears_here"] []
  a__law_sides : Addr
  fd__law_sides : FuncData
  F__law_sides : Fun K "_law_sides" "_law_sides" s__law_sides a__law_sides fd__law_sides
  g__law_sides : mg "_law_sides" = some (.ref a__law_sides)
  b__law_sides : Binds K fd__law_sides ["_law_n"] []
  a__law_ties : Addr
  fd__law_ties : FuncData
  F__law_ties : Fun K "_law_ties" "_law_ties" s__law_ties a__law_ties fd__law_ties
  g__law_ties : mg "_law_ties" = some (.ref a__law_ties)
  b__law_ties : Binds K fd__law_ties ["_law_n", "_law_cut"] []
  a__law_beside : Addr
  fd__law_beside : FuncData
  F__law_beside : Fun K "_law_beside" "_law_beside" s__law_beside a__law_beside fd__law_beside
  g__law_beside : mg "_law_beside" = some (.ref a__law_beside)
  b__law_beside : Binds K fd__law_beside ["_law_n", "_law_all_ties", "_law_a", "_law_b"] []
  a__law_turned : Addr
  fd__law_turned : FuncData
  F__law_turned : Fun K "_law_turned" "_law_turned" s__law_turned a__law_turned fd__law_turned
  g__law_turned : mg "_law_turned" = some (.ref a__law_turned)
  b__law_turned : Binds K fd__law_turned ["_law_n", "_law_cut", "_law_rope"] []
  a__law_tuple : Addr
  fd__law_tuple : FuncData
  F__law_tuple : Fun K "_law_tuple" "_law_tuple" s__law_tuple a__law_tuple fd__law_tuple
  g__law_tuple : mg "_law_tuple" = some (.ref a__law_tuple)
  b__law_tuple : Binds K fd__law_tuple ["_law_found", "_law_many_here"] []
  a__law_list : Addr
  fd__law_list : FuncData
  F__law_list : Fun K "_law_list" "_law_list" s__law_list a__law_list fd__law_list
  g__law_list : mg "_law_list" = some (.ref a__law_list)
  b__law_list : Binds K fd__law_list ["_law_found", "_law_many_here"] []
  a__law_walk : Addr
  fd__law_walk : FuncData
  F__law_walk : Fun K "_law_walk" "_law_walk" s__law_walk a__law_walk fd__law_walk
  g__law_walk : mg "_law_walk" = some (.ref a__law_walk)
  b__law_walk : Binds K fd__law_walk ["_law_n", "_law_cut", "_law_found"] []
  a__law_away : Addr
  fd__law_away : FuncData
  F__law_away : Fun K "_law_away" "_law_away" s__law_away a__law_away fd__law_away
  g__law_away : mg "_law_away" = some (.ref a__law_away)
  b__law_away : Binds K fd__law_away ["_law_cut", "_law_post"] []
  a_law : Addr
  fd_law : FuncData
  F_law : Fun K "law" "law" s_law a_law fd_law
  g_law : mg "law" = some (.ref a_law)
  b_law : Binds K fd_law ["_law_script"] []
  m_abs : mg "abs" = none
  m_bool : mg "bool" = none
  m_int : mg "int" = none
  m_isinstance : mg "isinstance" = none
  m_len : mg "len" = none
  m_list : mg "list" = none
  m_max : mg "max" = none
  m_min : mg "min" = none
  m_range : mg "range" = none
  m_sorted : mg "sorted" = none
  m_tuple : mg "tuple" = none
def nthM {α : Type} : List α → Nat → Option α
  | [], _ => none
  | a :: _, 0 => some a
  | _ :: l, n + 1 => nthM l n
theorem nthM_map {α β : Type} {u v : α → β} : ∀ {l : List α} {j : Nat} {d : α}, l.map u = l.map v → nthM l j = some d → u d = v d
  | a :: l, 0, d, e, h => by cases h; exact (List.cons.inj e).1
  | a :: l, j + 1, d, e, h => nthM_map (l := l) (List.cons.inj e).2 h
def faM0 (K : PySem.W.Frag) : Bool := decide (PySem.W.subIn K (.ref (He.ga K "MeadError")) (.type "BaseException") = some true)
def faM1 (K : PySem.W.Frag) : Bool := He.eqO (PySem.W.findIn K (.ref (He.ga K "MeadError")) "__getattribute__") (some (some (.builtin "BaseException.__getattribute__")))
def faM2 (K : PySem.W.Frag) : Bool := He.eqO (PySem.W.findIn K (.ref (He.ga K "MeadError")) "__getattr__") (some none)
def faM3 (K : PySem.W.Frag) : Bool := PySem.W.hasDictIn K (He.ga K "MeadError")
def faM4 (K : PySem.W.Frag) : Bool := He.eqO (PySem.W.findIn K (.ref (He.ga K "MeadError")) "__class__") (some (some (.builtin "object.__class__")))
def faM5 (K : PySem.W.Frag) : Bool := He.eqO (PySem.W.specialIn K (.builtin "object.__class__") "__get__") (some (some (.builtin "getset_descriptor.__get__")))
def faM6 (K : PySem.W.Frag) : Bool := decide (PySem.W.takesIn K (.builtin "object.__class__") = some true)
def faM7 (K : PySem.W.Frag) : Bool := decide (PySem.W.mroIn K (He.ga K "MeadError") (.type "object") = some true)
def faM8 (K : PySem.W.Frag) : Bool := He.eqO (PySem.W.nsIn K mainGlobals "MeadError") (some (some (.ref (He.ga K "MeadError"))))
def faM9 (K : PySem.W.Frag) : Bool := PySem.W.excIn K (He.ga K "MeadError") [.type "ValueError", .type "Exception", .type "BaseException", .type "object"] "ValueError.__new__"
def faM10 (K : PySem.W.Frag) : Bool := PySem.W.keepIn K (.ref (He.ga K "MeadError"))
def faM11 (K : PySem.W.Frag) : Bool := decide (PySem.W.typeIn K (.ref (He.ga K "MeadError")) = some (.type "type"))
def faM12 (K : PySem.W.Frag) : Bool := decide (PySem.W.subIn K (.ref (He.ga K "NoRope")) (.type "BaseException") = some true)
def faM13 (K : PySem.W.Frag) : Bool := He.eqO (PySem.W.findIn K (.ref (He.ga K "NoRope")) "__getattribute__") (some (some (.builtin "BaseException.__getattribute__")))
def faM14 (K : PySem.W.Frag) : Bool := He.eqO (PySem.W.findIn K (.ref (He.ga K "NoRope")) "__getattr__") (some none)
def faM15 (K : PySem.W.Frag) : Bool := PySem.W.hasDictIn K (He.ga K "NoRope")
def faM16 (K : PySem.W.Frag) : Bool := He.eqO (PySem.W.findIn K (.ref (He.ga K "NoRope")) "__class__") (some (some (.builtin "object.__class__")))
def faM17 (K : PySem.W.Frag) : Bool := He.eqO (PySem.W.specialIn K (.builtin "object.__class__") "__get__") (some (some (.builtin "getset_descriptor.__get__")))
def faM18 (K : PySem.W.Frag) : Bool := decide (PySem.W.takesIn K (.builtin "object.__class__") = some true)
def faM19 (K : PySem.W.Frag) : Bool := decide (PySem.W.mroIn K (He.ga K "NoRope") (.type "object") = some true)
def faM20 (K : PySem.W.Frag) : Bool := He.eqO (PySem.W.nsIn K mainGlobals "NoRope") (some (some (.ref (He.ga K "NoRope"))))
def faM21 (K : PySem.W.Frag) : Bool := PySem.W.excIn K (He.ga K "NoRope") [.type "ValueError", .type "Exception", .type "BaseException", .type "object"] "ValueError.__new__"
def faM22 (K : PySem.W.Frag) : Bool := PySem.W.keepIn K (.ref (He.ga K "NoRope"))
def faM23 (K : PySem.W.Frag) : Bool := decide (PySem.W.typeIn K (.ref (He.ga K "NoRope")) = some (.type "type"))
def faM24 (K : PySem.W.Frag) : Bool := PySem.W.keepIn K (.ref (He.ga K "pair_of"))
def faM25 (K : PySem.W.Frag) : Bool := He.Fa.ok K (.code ("pair_of", none) "pair_of")
def faM26 (K : PySem.W.Frag) : Bool := He.eqO (PySem.W.nsIn K mainGlobals "pair_of") (some (some (.ref (He.ga K "pair_of"))))
def faM27 (K : PySem.W.Frag) : Bool := PySem.W.keepIn K (.ref (He.ga K "sides"))
def faM28 (K : PySem.W.Frag) : Bool := He.Fa.ok K (.code ("sides", none) "sides")
def faM29 (K : PySem.W.Frag) : Bool := He.eqO (PySem.W.nsIn K mainGlobals "sides") (some (some (.ref (He.ga K "sides"))))
def faM30 (K : PySem.W.Frag) : Bool := PySem.W.keepIn K (.ref (He.ga K "ties"))
def faM31 (K : PySem.W.Frag) : Bool := He.Fa.ok K (.code ("ties", none) "ties")
def faM32 (K : PySem.W.Frag) : Bool := He.eqO (PySem.W.nsIn K mainGlobals "ties") (some (some (.ref (He.ga K "ties"))))
def faM33 (K : PySem.W.Frag) : Bool := PySem.W.keepIn K (.ref (He.ga K "beside"))
def faM34 (K : PySem.W.Frag) : Bool := He.Fa.ok K (.code ("beside", none) "beside")
def faM35 (K : PySem.W.Frag) : Bool := He.eqO (PySem.W.nsIn K mainGlobals "beside") (some (some (.ref (He.ga K "beside"))))
def faM36 (K : PySem.W.Frag) : Bool := PySem.W.keepIn K (.ref (He.ga K "new_rope"))
def faM37 (K : PySem.W.Frag) : Bool := He.Fa.ok K (.code ("new_rope", none) "new_rope")
def faM38 (K : PySem.W.Frag) : Bool := He.eqO (PySem.W.nsIn K mainGlobals "new_rope") (some (some (.ref (He.ga K "new_rope"))))
def faM39 (K : PySem.W.Frag) : Bool := PySem.W.keepIn K (.ref (He.ga K "turned"))
def faM40 (K : PySem.W.Frag) : Bool := He.Fa.ok K (.code ("turned", none) "turned")
def faM41 (K : PySem.W.Frag) : Bool := He.eqO (PySem.W.nsIn K mainGlobals "turned") (some (some (.ref (He.ga K "turned"))))
def faM42 (K : PySem.W.Frag) : Bool := PySem.W.keepIn K (.ref (He.ga K "road"))
def faM43 (K : PySem.W.Frag) : Bool := He.Fa.ok K (.code ("road", none) "road")
def faM44 (K : PySem.W.Frag) : Bool := He.eqO (PySem.W.nsIn K mainGlobals "road") (some (some (.ref (He.ga K "road"))))
def faM45 (K : PySem.W.Frag) : Bool := PySem.W.keepIn K (.ref (He.ga K "fan_turnings"))
def faM46 (K : PySem.W.Frag) : Bool := He.Fa.ok K (.code ("fan_turnings", none) "fan_turnings")
def faM47 (K : PySem.W.Frag) : Bool := He.eqO (PySem.W.nsIn K mainGlobals "fan_turnings") (some (some (.ref (He.ga K "fan_turnings"))))
def faM48 (K : PySem.W.Frag) : Bool := PySem.W.keepIn K (.ref (He.ga K "rope_facing"))
def faM49 (K : PySem.W.Frag) : Bool := He.Fa.ok K (.code ("rope_facing", none) "rope_facing")
def faM50 (K : PySem.W.Frag) : Bool := He.eqO (PySem.W.nsIn K mainGlobals "rope_facing") (some (some (.ref (He.ga K "rope_facing"))))
def faM51 (K : PySem.W.Frag) : Bool := PySem.W.keepIn K (.ref (He.ga K "busiest"))
def faM52 (K : PySem.W.Frag) : Bool := He.Fa.ok K (.code ("busiest", none) "busiest")
def faM53 (K : PySem.W.Frag) : Bool := He.eqO (PySem.W.nsIn K mainGlobals "busiest") (some (some (.ref (He.ga K "busiest"))))
def faM54 (K : PySem.W.Frag) : Bool := PySem.W.keepIn K (.ref (He.ga K "_law_flow"))
def faM55 (K : PySem.W.Frag) : Bool := He.Fa.ok K (.code ("_law_flow", none) "_law_flow")
def faM56 (K : PySem.W.Frag) : Bool := He.eqO (PySem.W.nsIn K mainGlobals "_law_flow") (some (some (.ref (He.ga K "_law_flow"))))
def faM57 (K : PySem.W.Frag) : Bool := PySem.W.keepIn K (.ref (He.ga K "_law_whole"))
def faM58 (K : PySem.W.Frag) : Bool := He.Fa.ok K (.code ("_law_whole", none) "_law_whole")
def faM59 (K : PySem.W.Frag) : Bool := He.eqO (PySem.W.nsIn K mainGlobals "_law_whole") (some (some (.ref (He.ga K "_law_whole"))))
def faM60 (K : PySem.W.Frag) : Bool := PySem.W.keepIn K (.ref (He.ga K "_law_many"))
def faM61 (K : PySem.W.Frag) : Bool := He.Fa.ok K (.code ("_law_many", none) "_law_many")
def faM62 (K : PySem.W.Frag) : Bool := He.eqO (PySem.W.nsIn K mainGlobals "_law_many") (some (some (.ref (He.ga K "_law_many"))))
def faM63 (K : PySem.W.Frag) : Bool := PySem.W.keepIn K (.ref (He.ga K "_law_pair"))
def faM64 (K : PySem.W.Frag) : Bool := He.Fa.ok K (.code ("_law_pair", none) "_law_pair")
def faM65 (K : PySem.W.Frag) : Bool := He.eqO (PySem.W.nsIn K mainGlobals "_law_pair") (some (some (.ref (He.ga K "_law_pair"))))
def faM66 (K : PySem.W.Frag) : Bool := PySem.W.keepIn K (.ref (He.ga K "_law_ears"))
def faM67 (K : PySem.W.Frag) : Bool := He.Fa.ok K (.code ("_law_ears", none) "_law_ears")
def faM68 (K : PySem.W.Frag) : Bool := He.eqO (PySem.W.nsIn K mainGlobals "_law_ears") (some (some (.ref (He.ga K "_law_ears"))))
def faM69 (K : PySem.W.Frag) : Bool := PySem.W.keepIn K (.ref (He.ga K "_law_ropes"))
def faM70 (K : PySem.W.Frag) : Bool := He.Fa.ok K (.code ("_law_ropes", none) "_law_ropes")
def faM71 (K : PySem.W.Frag) : Bool := He.eqO (PySem.W.nsIn K mainGlobals "_law_ropes") (some (some (.ref (He.ga K "_law_ropes"))))
def faM72 (K : PySem.W.Frag) : Bool := PySem.W.keepIn K (.ref (He.ga K "_law_sides"))
def faM73 (K : PySem.W.Frag) : Bool := He.Fa.ok K (.code ("_law_sides", none) "_law_sides")
def faM74 (K : PySem.W.Frag) : Bool := He.eqO (PySem.W.nsIn K mainGlobals "_law_sides") (some (some (.ref (He.ga K "_law_sides"))))
def faM75 (K : PySem.W.Frag) : Bool := PySem.W.keepIn K (.ref (He.ga K "_law_ties"))
def faM76 (K : PySem.W.Frag) : Bool := He.Fa.ok K (.code ("_law_ties", none) "_law_ties")
def faM77 (K : PySem.W.Frag) : Bool := He.eqO (PySem.W.nsIn K mainGlobals "_law_ties") (some (some (.ref (He.ga K "_law_ties"))))
def faM78 (K : PySem.W.Frag) : Bool := PySem.W.keepIn K (.ref (He.ga K "_law_beside"))
def faM79 (K : PySem.W.Frag) : Bool := He.Fa.ok K (.code ("_law_beside", none) "_law_beside")
def faM80 (K : PySem.W.Frag) : Bool := He.eqO (PySem.W.nsIn K mainGlobals "_law_beside") (some (some (.ref (He.ga K "_law_beside"))))
def faM81 (K : PySem.W.Frag) : Bool := PySem.W.keepIn K (.ref (He.ga K "_law_turned"))
def faM82 (K : PySem.W.Frag) : Bool := He.Fa.ok K (.code ("_law_turned", none) "_law_turned")
def faM83 (K : PySem.W.Frag) : Bool := He.eqO (PySem.W.nsIn K mainGlobals "_law_turned") (some (some (.ref (He.ga K "_law_turned"))))
def faM84 (K : PySem.W.Frag) : Bool := PySem.W.keepIn K (.ref (He.ga K "_law_tuple"))
def faM85 (K : PySem.W.Frag) : Bool := He.Fa.ok K (.code ("_law_tuple", none) "_law_tuple")
def faM86 (K : PySem.W.Frag) : Bool := He.eqO (PySem.W.nsIn K mainGlobals "_law_tuple") (some (some (.ref (He.ga K "_law_tuple"))))
def faM87 (K : PySem.W.Frag) : Bool := PySem.W.keepIn K (.ref (He.ga K "_law_list"))
def faM88 (K : PySem.W.Frag) : Bool := He.Fa.ok K (.code ("_law_list", none) "_law_list")
def faM89 (K : PySem.W.Frag) : Bool := He.eqO (PySem.W.nsIn K mainGlobals "_law_list") (some (some (.ref (He.ga K "_law_list"))))
def faM90 (K : PySem.W.Frag) : Bool := PySem.W.keepIn K (.ref (He.ga K "_law_walk"))
def faM91 (K : PySem.W.Frag) : Bool := He.Fa.ok K (.code ("_law_walk", none) "_law_walk")
def faM92 (K : PySem.W.Frag) : Bool := He.eqO (PySem.W.nsIn K mainGlobals "_law_walk") (some (some (.ref (He.ga K "_law_walk"))))
def faM93 (K : PySem.W.Frag) : Bool := PySem.W.keepIn K (.ref (He.ga K "_law_away"))
def faM94 (K : PySem.W.Frag) : Bool := He.Fa.ok K (.code ("_law_away", none) "_law_away")
def faM95 (K : PySem.W.Frag) : Bool := He.eqO (PySem.W.nsIn K mainGlobals "_law_away") (some (some (.ref (He.ga K "_law_away"))))
def faM96 (K : PySem.W.Frag) : Bool := PySem.W.keepIn K (.ref (He.ga K "law"))
def faM97 (K : PySem.W.Frag) : Bool := He.Fa.ok K (.code ("law", none) "law")
def faM98 (K : PySem.W.Frag) : Bool := He.eqO (PySem.W.nsIn K mainGlobals "law") (some (some (.ref (He.ga K "law"))))
def faM99 (K : PySem.W.Frag) : Bool := He.eqO (PySem.W.nsIn K mainGlobals "abs") (some none)
def faM100 (K : PySem.W.Frag) : Bool := He.eqO (PySem.W.nsIn K mainGlobals "bool") (some none)
def faM101 (K : PySem.W.Frag) : Bool := He.eqO (PySem.W.nsIn K mainGlobals "int") (some none)
def faM102 (K : PySem.W.Frag) : Bool := He.eqO (PySem.W.nsIn K mainGlobals "isinstance") (some none)
def faM103 (K : PySem.W.Frag) : Bool := He.eqO (PySem.W.nsIn K mainGlobals "len") (some none)
def faM104 (K : PySem.W.Frag) : Bool := He.eqO (PySem.W.nsIn K mainGlobals "list") (some none)
def faM105 (K : PySem.W.Frag) : Bool := He.eqO (PySem.W.nsIn K mainGlobals "max") (some none)
def faM106 (K : PySem.W.Frag) : Bool := He.eqO (PySem.W.nsIn K mainGlobals "min") (some none)
def faM107 (K : PySem.W.Frag) : Bool := He.eqO (PySem.W.nsIn K mainGlobals "range") (some none)
def faM108 (K : PySem.W.Frag) : Bool := He.eqO (PySem.W.nsIn K mainGlobals "sorted") (some none)
def faM109 (K : PySem.W.Frag) : Bool := He.eqO (PySem.W.nsIn K mainGlobals "tuple") (some none)
def faM110 (K : PySem.W.Frag) : Bool := He.eqO (PySem.W.nsIn K mainGlobals "law") (some (some (.ref (He.ga K "law"))))
def dM_pair_of : He.FnD := ⟨("pair_of", none), "pair_of", "pair_of", defArgs s_pair_of, defBody s_pair_of, defScope s_pair_of⟩
def dM_sides : He.FnD := ⟨("sides", none), "sides", "sides", defArgs s_sides, defBody s_sides, defScope s_sides⟩
def dM_ties : He.FnD := ⟨("ties", none), "ties", "ties", defArgs s_ties, defBody s_ties, defScope s_ties⟩
def dM_beside : He.FnD := ⟨("beside", none), "beside", "beside", defArgs s_beside, defBody s_beside, defScope s_beside⟩
def dM_new_rope : He.FnD := ⟨("new_rope", none), "new_rope", "new_rope", defArgs s_new_rope, defBody s_new_rope, defScope s_new_rope⟩
def dM_turned : He.FnD := ⟨("turned", none), "turned", "turned", defArgs s_turned, defBody s_turned, defScope s_turned⟩
def dM_road : He.FnD := ⟨("road", none), "road", "road", defArgs s_road, defBody s_road, defScope s_road⟩
def dM_fan_turnings : He.FnD := ⟨("fan_turnings", none), "fan_turnings", "fan_turnings", defArgs s_fan_turnings, defBody s_fan_turnings, defScope s_fan_turnings⟩
def dM_rope_facing : He.FnD := ⟨("rope_facing", none), "rope_facing", "rope_facing", defArgs s_rope_facing, defBody s_rope_facing, defScope s_rope_facing⟩
def dM_busiest : He.FnD := ⟨("busiest", none), "busiest", "busiest", defArgs s_busiest, defBody s_busiest, defScope s_busiest⟩
def dM__law_flow : He.FnD := ⟨("_law_flow", none), "_law_flow", "_law_flow", defArgs s__law_flow, defBody s__law_flow, defScope s__law_flow⟩
def dM__law_whole : He.FnD := ⟨("_law_whole", none), "_law_whole", "_law_whole", defArgs s__law_whole, defBody s__law_whole, defScope s__law_whole⟩
def dM__law_many : He.FnD := ⟨("_law_many", none), "_law_many", "_law_many", defArgs s__law_many, defBody s__law_many, defScope s__law_many⟩
def dM__law_pair : He.FnD := ⟨("_law_pair", none), "_law_pair", "_law_pair", defArgs s__law_pair, defBody s__law_pair, defScope s__law_pair⟩
def dM__law_ears : He.FnD := ⟨("_law_ears", none), "_law_ears", "_law_ears", defArgs s__law_ears, defBody s__law_ears, defScope s__law_ears⟩
def dM__law_ropes : He.FnD := ⟨("_law_ropes", none), "_law_ropes", "_law_ropes", defArgs s__law_ropes, defBody s__law_ropes, defScope s__law_ropes⟩
def dM__law_sides : He.FnD := ⟨("_law_sides", none), "_law_sides", "_law_sides", defArgs s__law_sides, defBody s__law_sides, defScope s__law_sides⟩
def dM__law_ties : He.FnD := ⟨("_law_ties", none), "_law_ties", "_law_ties", defArgs s__law_ties, defBody s__law_ties, defScope s__law_ties⟩
def dM__law_beside : He.FnD := ⟨("_law_beside", none), "_law_beside", "_law_beside", defArgs s__law_beside, defBody s__law_beside, defScope s__law_beside⟩
def dM__law_turned : He.FnD := ⟨("_law_turned", none), "_law_turned", "_law_turned", defArgs s__law_turned, defBody s__law_turned, defScope s__law_turned⟩
def dM__law_tuple : He.FnD := ⟨("_law_tuple", none), "_law_tuple", "_law_tuple", defArgs s__law_tuple, defBody s__law_tuple, defScope s__law_tuple⟩
def dM__law_list : He.FnD := ⟨("_law_list", none), "_law_list", "_law_list", defArgs s__law_list, defBody s__law_list, defScope s__law_list⟩
def dM__law_walk : He.FnD := ⟨("_law_walk", none), "_law_walk", "_law_walk", defArgs s__law_walk, defBody s__law_walk, defScope s__law_walk⟩
def dM__law_away : He.FnD := ⟨("_law_away", none), "_law_away", "_law_away", defArgs s__law_away, defBody s__law_away, defScope s__law_away⟩
def dM_law : He.FnD := ⟨("law", none), "law", "law", defArgs s_law, defBody s_law, defScope s_law⟩
def falM0 : List (PySem.W.Frag → Bool) := [faM0, faM1, faM2, faM3, faM4, faM5, faM6, faM7, faM8, faM9, faM10, faM11, faM12, faM13, faM14, faM15, faM16, faM17, faM18, faM19, faM20, faM21, faM22, faM23, faM24, faM25, faM26, faM27, faM28, faM29, faM30, faM31, faM32, faM33, faM34, faM35, faM36, faM37, faM38, faM39]
def falM1 : List (PySem.W.Frag → Bool) := [faM40, faM41, faM42, faM43, faM44, faM45, faM46, faM47, faM48, faM49, faM50, faM51, faM52, faM53, faM54, faM55, faM56, faM57, faM58, faM59, faM60, faM61, faM62, faM63, faM64, faM65, faM66, faM67, faM68, faM69, faM70, faM71, faM72, faM73, faM74, faM75, faM76, faM77, faM78, faM79]
def falM2 : List (PySem.W.Frag → Bool) := [faM80, faM81, faM82, faM83, faM84, faM85, faM86, faM87, faM88, faM89, faM90, faM91, faM92, faM93, faM94, faM95, faM96, faM97, faM98, faM99, faM100, faM101, faM102, faM103, faM104, faM105, faM106, faM107, faM108, faM109, faM110]
def falM : List (PySem.W.Frag → Bool) := falM0 ++ (falM1 ++ (falM2))
def fnlM0 : List He.FnD := [dM_pair_of, dM_sides, dM_ties, dM_beside, dM_new_rope, dM_turned, dM_road, dM_fan_turnings, dM_rope_facing, dM_busiest, dM__law_flow, dM__law_whole, dM__law_many, dM__law_pair, dM__law_ears, dM__law_ropes, dM__law_sides, dM__law_ties, dM__law_beside, dM__law_turned, dM__law_tuple, dM__law_list, dM__law_walk, dM__law_away, dM_law]
def fnlM : List He.FnD := fnlM0
def looM0 : List PySem.Str := [Str.ofString "__name__", Str.ofString "MeadError", Str.ofString "NoRope", Str.ofString "pair_of", Str.ofString "sides", Str.ofString "ties", Str.ofString "beside", Str.ofString "new_rope", Str.ofString "turned", Str.ofString "road", Str.ofString "fan_turnings", Str.ofString "rope_facing", Str.ofString "busiest", Str.ofString "_law_flow", Str.ofString "_law_whole", Str.ofString "_law_many", Str.ofString "_law_pair", Str.ofString "_law_ears", Str.ofString "_law_ropes", Str.ofString "_law_sides", Str.ofString "_law_ties", Str.ofString "_law_beside", Str.ofString "_law_turned", Str.ofString "_law_tuple", Str.ofString "_law_list", Str.ofString "_law_walk", Str.ofString "_law_away"]
def looM : List PySem.Str := looM0
def refsM (o : Obj) : List Addr := match o.data with
  | .func fd => He.refV fd.code
  | .cls cd => [cd.ns]
  | .dict _ _ => He.refsO o
  | _ => []
def layM (g : Addr → Option Obj) (as : List Addr) : List Addr := as.flatMap fun a => match g a with
  | some o => refsM o
  | none => []
def asM4 (g : Addr → Option Obj) (as : List Addr) : List Addr := as ++ layM g as
def asM3 (g : Addr → Option Obj) (as : List Addr) : List Addr := as ++ asM4 g (layM g as)
def asM2 (g : Addr → Option Obj) (as : List Addr) : List Addr := as ++ asM3 g (layM g as)
def asM (g : Addr → Option Obj) : List Addr := mainGlobals :: asM2 g (layM g [mainGlobals])
abbrev SayT : Type := List Bool × List He.FnV
abbrev bzM : He.Defn := ("busiest", none)
def obsM (K : PySem.W.Frag) : SayT := (falM.map (fun f => f K), fnlM.map (fun d => He.fnObs K d.at_))
def valM : SayT := (falM.map (fun _ => true), fnlM.map He.FnD.val)
abbrev SayX : Type := SayT × Bool
def obsX (g : Addr → Option Obj) : SayX := (obsM (He.frT g (asM g)), He.tabsB g [bzM] (He.frT g (asM g)))
structure SaysB (h : Heap) (K : PySem.W.Frag) : Prop where
  c : obsM K = valM
  hd : PySem.W.codeHdIn K (He.cT K bzM).1 (He.cT K bzM).2 = true
  out : K.lookup (He.cT K bzM).2 = none
  empty : h.get? (He.cT K bzM).2 = some { cls := .none, data := .fields #[] }
theorem saysB_of {h : Heap} (e : obsX h.get? = (valM, true)) : SaysB h (He.frT h.get? (asM h.get?)) := by
  have e1 : obsM (He.frT h.get? (asM h.get?)) = valM := congrArg Prod.fst e
  have e2 : He.tabsB h.get? [bzM] (He.frT h.get? (asM h.get?)) = true := congrArg Prod.snd e
  obtain ⟨h3, h4⟩ := He.ba (List.all_eq_true.mp e2 bzM List.mem_cons_self)
  cases q : h.get? (He.cT (He.frT h.get? (asM h.get?)) bzM).2 with
  | none => rw [q] at h4; cases h4
  | some o =>
    rw [q] at h4
    exact ⟨e1, h3, He.frT_none q h4, by rw [q, He.emptyTab_eq h4]⟩
def hkM : PySem.W.Hook where
  α := SayX
  obs := fun s => obsX s.heap.get?
  val := fun _ => (valM, true)
  says := fun _ h => ∃ K : PySem.W.Frag, K.In h ∧ SaysB h K
  of := fun _ _ e => ⟨_, He.frT_in, saysB_of e⟩
  keeps := fun _ _ _ z k => match z with | ⟨K, hK, c⟩ => ⟨K, PySem.W.Frag.In.keeps hK k, ⟨c.c, c.hd, c.out, k _ _ c.empty⟩⟩
def obM (s : PySem.W.SharedT) : SayX := obsX (HandSHeadRun.getT s)
theorem obM_eq (s : PySem.W.SharedT) : obM s = hkM.obs s.abs := by
  have e : HandSHeadRun.getT s = s.abs.heap.get? := funext (HandSHeadRun.getT_eq s)
  show obsX (HandSHeadRun.getT s) = obsX s.abs.heap.get?
  rw [e]
abbrev RowM : PySem.W.OpenRow := PySem.W.OpenLaw.row PySem.Challenge.rw_postmead_k17_whole_roads_lead
theorem runM (w : World) : HandSHeadRun.RunEqI RowM (PySem.W.view RowM.prog [31]) hkM obM 9000 looM w := by
  unfold HandSHeadRun.RunEqI; kernel_rfl
theorem fctM {K : PySem.W.Frag} (c : falM.map (fun f => f K) = falM.map (fun _ => true)) {f : PySem.W.Frag → Bool} {j : Nat} (h : nthM falM j = some f) : f K = true := nthM_map (u := fun f => f K) (v := fun _ => true) c h
theorem fntM {K : PySem.W.Frag} (c : fnlM.map (fun d => He.fnObs K d.at_) = fnlM.map He.FnD.val) {d : He.FnD} {j : Nat} (h : nthM fnlM j = some d) : He.fnObs K d.at_ = d.val := nthM_map c h
section
variable {P : Program} {w : World} {K : PySem.W.Frag} {mg : Str → Option Value} {base : Heap}

/-! ### the row of numbers that the script makes -/
def rowOk (rs : List Int) : Prop := ∀ v ∈ rs, 0 ≤ v ∧ v < 1000000
theorem rowOk_nil : rowOk [] := fun _ h => by cases h
theorem rowOk_add {rs : List Int} {v : Int} (h : rowOk rs) (h0 : 0 ≤ v) (h1 : v < 1000000) : rowOk (rs ++ [v]) := fun x hx => by
  rcases List.mem_append.mp hx with q | q
  · exact h x q
  · rw [List.mem_singleton.mp q]
    exact ⟨h0, h1⟩
def sp_flow (K : PySem.W.Frag) : Sp := fun vs H Q _ => ∃ (a : Addr) (ns : List Int) (m : Int), vs = [.ref a, .int m] ∧ SqL K H a (ns.map V.int) ∧ ns.length ≤ 63 ∧ 0 ≤ m ∧ m ≤ 1000 ∧
  ∀ H' p (rs : List Int), Same H H' → H p = none → rs.length = m.toNat → rowOk rs → H' p = some (.lst (rs.map V.int)) → Q (.ref p) H'
def flowInv (a : Addr) (m : Int) (p : Addr) (H : Hp) : Nat → L2.St → Hp → Prop := fun i σ H' => ∃ (g : Int) (rs : List Int) (k c x : Option V),
  σ = [some (.ref a), some (.int m), some (.int g), some (.ref p), k, c, x] ∧ Same H H' ∧ H' p = some (.lst (rs.map V.int)) ∧ rs.length = i ∧ rowOk rs
theorem mod_in (x : Int) : 0 ≤ x % 1000000 ∧ x % 1000000 < 1000000 := ⟨Int.emod_nonneg _ (by decide), Int.emod_lt_of_pos _ (by decide)⟩
theorem flow_turn {a p : Addr} {m g z : Int} {H H' : Hp} {i : Nat} {rs : List Int} {k c x : Option V} (hs : Same H H') (hp : H p = none) (hrl : rs.length = i) (hro : rowOk rs) :
    flowInv a m p H (i + 1) [some (.ref a), some (.int m), some (.int g), some (.ref p), k, c, x] (upd H' p (.lst (rs.map V.int ++ [V.int (z % 1000000)]))) := by
  refine ⟨g, rs ++ [z % 1000000], k, c, x, rfl, same_put hs hp, ?_, by rw [List.length_append, hrl]; rfl, rowOk_add hro (mod_in z).1 (mod_in z).2⟩
  rw [upd_same, List.map_append]; rfl
theorem mod_at {ns : List Int} (h : 0 < ns.length) (k : Nat) : ∃ z, atI (ns.map V.int) ((k : Int) % (ns.length : Int)) = some (.int z) := by
  have hk : k % ns.length < ns.length := Nat.mod_lt _ h
  refine ⟨ns[k % ns.length], ?_⟩
  rw [← Int.natCast_emod]
  refine atI_nat ?_
  rw [List.getElem?_map, List.getElem?_eq_getElem hk]
  rfl
theorem ok__law_flow (T : Env K mg) (tb : LamX.TabB base mg (He.cT K bzM).1 (He.cT K bzM).2) (qa : T.a_busiest = He.fAd K bzM) : FnOk P w K mg base CX0 1 T.a__law_flow T.fd__law_flow ["_law_script", "_law_many_here"] (sp_flow K) := by
  refine T.F__law_flow.ok sc__law_flow (fun vs H Q E h => ?_) (fun cdv A outer s H vs Q E hr h => ?_)
  · obtain ⟨a, ns, m, rfl, _⟩ := h
    rfl
  · obtain ⟨a, ns, m, rfl, hS, hl, hm0, hm1, q⟩ := h
    refine ⟨_, (pss_cons (ps_set (i := 2) sc__law_flow.nd rfl (.inl rfl) pe_int)
 (C8.pss_cut (ps_if (PW.pt (pw_and (pt_cmpR op_gt (pe_callB (id := "len") call_len_seq (by rfl) T.m_len (by decide +kernel) (pa_cons (pv 0) pa_nil)) pe_int (nomark _)) (pw_and1 (pt_cmpR op_ge (pe_callB call_abs (by rfl) T.m_abs (by decide +kernel) (pa_cons (pe_ix ix_list (pv 0) pe_int (fun _ _ => rfl)) pa_nil)) (pe_op op_pow pe_int pe_int) (nomark _)))))
 (pss_one (ps_set (i := 2) sc__law_flow.nd rfl (.inl rfl) (pe_op op_sub (pe_callB call_abs (by rfl) T.m_abs (by decide +kernel) (pa_cons (pe_ix ix_list (pv 0) pe_int (fun _ _ => rfl)) pa_nil)) (pe_op op_pow pe_int pe_int))))
 pss_nil)
 (pss_cons (ps_set (i := 3) sc__law_flow.nd rfl (.inl rfl) (pe_lst pa_nil))
 (pss_cons (ps_for PassesOwn.never rfl (pi_range1 (by rfl) T.m_range (pa_cons (pv 1) pa_nil)) (pg_name (i := 4) sc__law_flow.nd rfl (.inl rfl))
 (pss_one (ps_if (pt_cmpR op_gt (pv 2) pe_int (nomark _))
 (pss_cons (ps_expr (pe_bm PySem.F.plainAttrs_list PySem.F.slot_list_append PySem.F.type_list_append mt_append (pv 3) (pa_cons (pe_op op_mod (pv 2) pe_int) pa_nil)))
 (pss_one (ps_set (i := 2) sc__law_flow.nd rfl (.inl rfl) (pe_op op_fdiv (pv 2) pe_int))))
 (pss_cons (ps_set (i := 5) sc__law_flow.nd rfl (.inl rfl) (pe_op op_add (pv 4) pe_int))
 (C8.pss_cut (ps_if (pt_cmpR op_gt (pe_callB (id := "len") call_len_seq (by rfl) T.m_len (by decide +kernel) (pa_cons (pv 0) pa_nil)) pe_int (nomark _))
 (pss_one (ps_set (i := 5) sc__law_flow.nd rfl (.inl rfl) (pe_ix ix_list (pv 0) (pe_op op_mod (pv 4) (pe_callB (id := "len") call_len_seq (by rfl) T.m_len (by decide +kernel) (pa_cons (pv 0) pa_nil))) (fun _ _ => rfl))))
 pss_nil)
 (pss_cons (ps_set (i := 6) sc__law_flow.nd rfl (.inl rfl) (pe_op op_mod (pe_op op_add (pe_op op_add (pe_op op_mulU (pv 5) pe_int) (pe_op op_mulU (pv 4) pe_int)) pe_int) pe_int))
 (pss_cons (ps_set (i := 6) sc__law_flow.nd rfl (.inl rfl) (pe_op op_mod (pe_op op_add (pe_op op_add (pe_op op_mulU (pv 6) pe_int) (pe_op op_mulU (pv 4) pe_int)) (pe_callB (id := "len") call_len_seq (by rfl) T.m_len (by decide +kernel) (pa_cons (pv 0) pa_nil))) pe_int))
 (pss_one (ps_expr (pe_bm PySem.F.plainAttrs_list PySem.F.slot_list_append PySem.F.type_list_append mt_append (pv 3) (pa_cons (pe_op op_mod (pe_op op_fdiv (pv 6) pe_int) pe_int) pa_nil)))))))))))
 (pss_one (ps_ret (pv 3))))))), ?_⟩
    have hlen : (ns.map V.int).length = ns.length := List.length_map _
    refine ⟨fun σ' H' => ∃ g : Int, σ' = [some (.ref a), some (.int m), some (.int g), none, none, none, none] ∧ H = H', ?_, ?_⟩
    · refine ⟨_, rfl, _, _, rfl, .inl hS, _, _, rfl, rfl, _, rfl, ite2 (fun hd => ?_) (fun _ => ⟨_, rfl, rfl⟩)⟩
      have h0 : 0 < ns.length := by
        have := of_decide_eq_true hd
        rw [hlen] at this
        omega
      obtain ⟨z, hz⟩ := mod_at h0 0
      have hz0 : atI (ns.map V.int) 0 = some (.int z) := by
        have e : ((0 : Nat) : Int) % (ns.length : Int) = 0 := by simp
        rw [e] at hz
        exact hz
      refine ⟨_, rfl, a, _, _, _, rfl, rfl, hS, hz0, _, rfl, _, _, rfl, rfl, ⟨by decide, by decide, by decide⟩, _, _, rfl, rfl, _, rfl, ?_⟩
      refine ite2 (fun _ => ?_) (fun _ => ⟨_, rfl, rfl⟩)
      exact ⟨_, rfl, a, _, _, _, rfl, rfl, hS, hz0, _, rfl, _, _, rfl, rfl, ⟨by decide, by decide, by decide⟩, _, _, rfl, rfl, _, rfl, rfl⟩
    · rintro _ _ ⟨g, rfl, rfl⟩
      refine ⟨Nat.zero_le _, fun p hp => ?_⟩
      refine ⟨_, rfl, m, rfl, by omega, by omega, for_range (lo := 0) (n := m.toNat) (flowInv a m p H) ⟨g, [], none, none, none, rfl, same_new hp, upd_same, rfl, rowOk_nil⟩ ?_ ?_⟩
      · rintro i σ H' hi ⟨g, rs, k, c, x, rfl, hs, hpl, hrl, hro⟩
        have hA := hs.seq hS
        have hsz : (rs.map V.int).length < sizeLine := by rw [List.length_map]; exact small1000 (by omega)
        refine ⟨_, rfl, _, _, rfl, rfl, _, rfl, ite2 (fun _ => ?_) (fun _ => ?_)⟩
        · refine ⟨_, rfl, .inl ⟨rfl, _, .inl (.inl hpl)⟩, _, rfl, _, _, rfl, rfl, (by show (0 : Int) < _; decide), p, _, _, rfl, rfl, hpl, hsz, ?_⟩
          refine ⟨_, rfl, _, _, rfl, rfl, ⟨by decide, by decide⟩, ?_⟩
          exact flow_turn hs hp hrl hro
        · refine ⟨_, rfl, _, _, rfl, rfl, ?_⟩
          refine ⟨fun σ' H2 => ∃ cell : Int, σ' = [some (.ref a), some (.int m), some (.int g), some (.ref p), some (.int (0 + (i : Int))), some (.int cell), x] ∧ H' = H2, ?_, ?_⟩
          · refine ⟨_, rfl, _, _, rfl, .inl hA, _, _, rfl, rfl, _, rfl, ite2 (fun hd => ?_) (fun _ => ⟨_, rfl, rfl⟩)⟩
            have h0 : 0 < ns.length := by
              have := of_decide_eq_true hd
              rw [hlen] at this
              omega
            obtain ⟨z, hz⟩ := mod_at h0 i
            refine ⟨_, rfl, _, rfl, _, rfl, _, _, rfl, .inl hA, _, _, rfl, rfl, (by rw [hlen]; omega), a, _, _, .int z, rfl, rfl, hA, ?_, ⟨z, rfl, rfl⟩⟩
            rw [hlen, Int.zero_add]
            exact hz
          · rintro _ _ ⟨cell, rfl, rfl⟩
            refine ⟨_, rfl, _, _, rfl, rfl, mulR (by decide) (by decide), _, rfl, _, _, rfl, rfl, mulR (by decide) (by decide), _, _, rfl, rfl, _, _, rfl, rfl, _, _, rfl, rfl, (by show (0 : Int) < _; decide), ?_⟩
            refine ⟨_, rfl, _, _, rfl, rfl, mulR (by decide) (by decide), _, rfl, _, _, rfl, rfl, mulR (by decide) (by decide), _, _, rfl, rfl, _, rfl, _, _, rfl, .inl hA, _, _, rfl, rfl, _, _, rfl, rfl, (by show (0 : Int) < _; decide), ?_⟩
            refine ⟨_, rfl, .inl ⟨rfl, _, .inl (.inl hpl)⟩, _, rfl, _, _, rfl, rfl, ⟨by decide, by decide⟩, _, _, rfl, rfl, (by show (0 : Int) < _; decide), p, _, _, rfl, rfl, hpl, hsz, ?_⟩
            exact flow_turn hs hp hrl hro
      · rintro σ H' ⟨g, rs, k, c, x, rfl, hs, hpl, hrl, hro⟩
        exact ⟨_, rfl, q H' p rs hs hp hrl hro hpl⟩

/-! ### max(list, key=lambda ..) -/
section
variable {CX : CXT} {P : Program} {w : World} {K : PySem.W.Frag} {mg : Str → Option Value} {base : Heap} {N ps fr : List Str} {q : Str} {params : Arguments} {body : Expr} {scope : Scope} {cl : List (Str × Addr)} {f c' : Addr} {pm ctv : Value} {k : Nat}
/-- a lambda's words -/
abbrev lamF (q : Str) (params : Arguments) (scope : Scope) (cl : List (Str × Addr)) (c' : Addr) : NdefX.NF := ⟨"<lambda>", q, params, [], scope, cl, c'⟩
/-- a lambda is called -/
theorem lam_run {A : Around} {outer : List PySem.Env} {s : Shared} {H : Hp} {us : List Value} {vs : List V} {ws : List (Option V)} {Q : VK} {E : XK} (S : NdefX.NScope N ps fr scope)
    (hb : bindArgs (PySem.W.kla_fn "<lambda>" q params body scope cl pm (.ref c') ctv) ⟨us, []⟩ = pure (ps.zip us)) (hr : Room (k + 1) A) (e0 : Env0 P w K mg base A outer s H)
    (of : s.heap.get? f = some (PySem.W.kla_obj "<lambda>" q params body scope cl pm c' ctv)) (hc : H c' = some (LamX.CodeO c' q)) (C : NdefX.CellsAt cl fr ws s.heap H) (r : Vals vs us) (hl : vs.length = ps.length)
    (hbody : Room k (A.deeper (NdefX.envF (lamF q params scope cl c') f s.heap.objs.size)) → ∃ t, PE (NdefX.ncx CX P w K mg base N (lamF q params scope cl c') f A outer s H E) body t ∧ t (NdefX.startF N vs ws) H Q) :
    codeAny (model P w) A (.call (.ref f) ⟨us, []⟩) (CR CX outer P w H s Q E) s := by
  have lim : s.heap.NoLimit := e0.mod.nolimit.keeps fun b o e => (e0.bs b o e).1
  refine PySem.W.kla_callFunE hr.depth of rfl S.co S.gen rfl (NdefX.codeO_at e0.hok hc) ?_
  rw [hb]
  refine wpAny_pure (wpAny_newFunctionEnv S.nocell (fun ⟨n, _⟩ hy => S.par n (List.of_mem_zip hy).1) (fun h₁ hns hsb => ⟨lim.fresh _ hsb, ?_⟩) S.kind)
  show codeAny _ _ (.expr body (NdefX.envF (lamF q params scope cl c') f s.heap.objs.size)) _ _
  have kp : ∀ b o, s.heap.get? b = some o → h₁.get? b = some o := fun b o e => hsb.extBut b o (Nat.ne_of_lt (Heap.lt_size e)) (Heap.get?_push_of_some _ e)
  obtain ⟨t, ht, hq⟩ := hbody (hr.deeper _)
  have I : Inv (NdefX.ncx CX P w K mg base N (lamF q params scope cl c') f A outer s H E) [] (NdefX.startF N vs ws) H { s with heap := h₁, toks := s.toks + (ps.zip us).length } := NdefX.inv_startN S hr.hd e0 hl r C hns kp
  refine PySem.W.kla_codeExpr (wpAny_mono (ht.run [] _ (NdefX.startF N vs ws) H Q I hq) (fun v s' hq => ?_) fun e s' hq => hq)
  obtain ⟨w', H', J', rv, q'⟩ := hq
  exact ⟨w', H', J'.os, J'.bare, J'.base, J'.hok, rv, q'⟩
end
section
variable {X : Cx} {pins : List (Addr × Obj)} {σ : L2.St} {H : Hp} {s : Shared}
/-- a record of a built-in's own, not tracked -/
structure OwnR (X : Cx) (pins : List (Addr × Obj)) (H : Hp) (it : Addr) : Prop where
  n : H it = none
  L : it ≠ X.env.locals
  a : X.s_0.heap.objs.size ≤ it
  c : ∀ x c, X.env.cells.lookup x = some c → c ≠ it
  p : ∀ p ∈ X.pn ++ pins, p.1 ≠ it
  fr : it ∉ frs X.stack
theorem own_of (I : Inv X pins σ H s) {it : Addr} (h : s.heap.objs.size ≤ it) : OwnR X pins H it := by
  refine ⟨I.hok.fresh h, fun z => ?_, Nat.le_trans I.sz h, fun x c e z => ?_, fun p hp z => ?_, fun z => ?_⟩
  · have h1 := I.lt
    rw [← z] at h1
    exact Nat.lt_irrefl _ (Nat.lt_of_lt_of_le h1 h)
  · obtain ⟨v, o, ho, _⟩ := I.cell x c e
    rw [z] at ho
    exact Nat.lt_irrefl _ (Nat.lt_of_lt_of_le (Heap.lt_size ho) h)
  · have ho := (I.pin p hp).1
    rw [z] at ho
    exact Nat.lt_irrefl _ (Nat.lt_of_lt_of_le (Heap.lt_size ho) h)
  · rcases List.mem_cons.mp (I.stkSub _ z) with e | e
    · have h1 := I.lt
      rw [← e] at h1
      exact Nat.lt_irrefl _ (Nat.lt_of_lt_of_le h1 h)
    · exact I.nofs h e
theorem OwnR.turn {it : Addr} (O : OwnR X pins H it) (I : Inv X pins σ H s) {h' : Heap} {t' : Nat} (k : ∀ b o, b ≠ it → s.heap.get? b = some o → h'.get? b = some o) : Inv X pins σ H { s with heap := h', toks := t' } :=
  I.turned k O.n O.L (.inr O.a) O.c O.p
/-- what is kept of the untracked ones -/
def KeptU (X : Cx) (H : Hp) (h h' : Heap) : Prop := ∀ b o, h.get? b = some o → H b = none → b ∉ frs X.stack → h'.get? b = some o
theorem KeptU.trans {h h1 h2 : Heap} (a : KeptU X H h h1) (b : KeptU X H h1 h2) : KeptU X H h h2 := fun c o e n f => b c o (a c o e n f) n f
theorem KeptU.of {h h1 : Heap} (k : ∀ b o, h.get? b = some o → h1.get? b = some o) : KeptU X H h h1 := fun b o e _ _ => k b o e
theorem list_raw {l : Addr} {ns : List Int} (I : Inv X pins σ H s) (h : SqL X.K H l (ns.map V.int)) : ∃ vs : List Value, IntsAre vs ns ∧ s.heap.IsList l vs.toArray := by
  obtain ⟨its, rv, ⟨o, n, ho, hc, _, hd⟩, _⟩ := I.list h
  exact ⟨its, ints_of_vals rv, ⟨o, ho, hc, n, hd⟩⟩
theorem max_loopI {l f Ia S : Addr} {ns : List Int} (kf : Int → Int) (hs : SqL X.K H l (ns.map V.int)) (OI : OwnR X pins H Ia) (OS : OwnR X pins H S) (hSI : S ≠ Ia) (hlI : l ≠ Ia) (h0 : Heap) (hI0 : h0.get? Ia = none) (hS0 : h0.get? S = none) (hh : X.A.handled = none)
    (turn : ∀ (s1 : Shared) (z : Int) (t : Tok), z ∈ ns → Inv X pins σ H s1 → KeptU X H h0 s1.heap → wpAny (model X.prog X.w) X.A.in1 (call (.ref f) [.int z t]) (fun u s2 => ∃ t', u = .int (kf z) t' ∧ Inv X pins σ H s2 ∧ KeptU X H s1.heap s2.heap) (fun _ _ => False) s1)
    {R : Result → Shared → Prop} (hR : ∀ z t s', z ∈ ns → (∀ y ∈ ns, kf y ≤ kf z) → Inv X pins σ H s' → R (.ok (.ret (.int z t))) s') :
    ∀ (r j : Nat) (s1 : Shared) (zb : Int) (t1 tb : Tok) (c : Nat), ns.length - (j + 1) = r → j + 1 ≤ ns.length → Inv X pins σ H s1 → KeptU X H h0 s1.heap → s1.heap.get? S = some (seqObj "list" #[.int zb t1, .int (kf zb) tb] c) → s1.heap.IsListIter Ia l (j + 1) → zb ∈ ns → (∀ j', j' ≤ j → ∀ y, ns[j']? = some y → kf y ≤ kf zb) →
      codeAny (model X.prog X.w) X.A (.builtin "max.loop" ⟨[.ref Ia, .ref f, .ref S], []⟩) R s1 := by
  have hname : (toString "max" ++ toString ".loop" : String) = "max.loop" := by decide
  intro r
  induction r with
  | zero =>
    intro j s1 zb t1 tb c hr hj J kp gS hit hzb hbest
    have hin : j + 1 = ns.length := by omega
    obtain ⟨vs, hv, hls⟩ := list_raw J hs
    have hvl := hv.length
    have W := Walks.list (prog := X.prog) (w := X.w) (A := X.A.in1) hh Ia l hlI vs.toArray
    have hsz : vs.toArray.size = ns.length := by rw [List.size_toArray]; exact hvl
    refine codeAny_builtin PySem.F.entry_max_loop ?_
    rw [Around.under_plainId PySem.F.plain_max_loop _]
    show wpAny _ X.A.in1 (seqItems? (.ref S) >>= _) _ _ _
    refine wpAny_bind (wpAny_seqItems gS rfl ?_)
    show wpAny _ X.A.in1 (tryCatch (pyNext (.ref Ia)) _ >>= _) _ _ _
    refine wpAny_bind (wpAny_tryCatch (W.done s1 _ _ ⟨by rw [hsz, ← hin]; exact hit, hls⟩ fun h' tk' hk' => ?_))
    have J1 := OI.turn (h' := h') (t' := tk') J fun b o e q => hk' b o (fun z => e (List.mem_singleton.mp z)) q
    have hS' := hk' S _ (by simpa using hSI) gS
    have sb := Heap.SameBut.update h' S (Obj.mapSeq fun _ => (#[] : Array Value))
    show wpAny _ X.A.in1 (updateSeq S (fun _ => #[]) >>= _) _ _ _
    refine wpAny_bind ?_
    refine wpAny_updateSeq hS' rfl (wpAny_bind (wpAny_letGo (wpAny_pure ?_)))
    exact hR zb t1 _ hzb (fun y hy => by
      obtain ⟨j', hj'⟩ := List.getElem?_of_mem hy
      have := (List.getElem?_eq_some_iff.mp hj').1
      exact hbest j' (by omega) y hj') (OS.turn J1 fun b o e q => (sb.2 b e).trans q)
  | succ r ih =>
    intro j s1 zb t1 tb c hr hj J kp gS hit hzb hbest
    have hlt : j + 1 < ns.length := by omega
    obtain ⟨vs, hv, hls⟩ := list_raw J hs
    have hvl := hv.length
    have W := Walks.list (prog := X.prog) (w := X.w) (A := X.A.in1) hh Ia l hlI vs.toArray
    have hsz : vs.toArray.size = ns.length := by rw [List.size_toArray]; exact hvl
    refine codeAny_builtin PySem.F.entry_max_loop ?_
    rw [Around.under_plainId PySem.F.plain_max_loop _]
    show wpAny _ X.A.in1 (seqItems? (.ref S) >>= _) _ _ _
    refine wpAny_bind (wpAny_seqItems gS rfl ?_)
    show wpAny _ X.A.in1 (tryCatch (pyNext (.ref Ia)) _ >>= _) _ _ _
    refine wpAny_bind (wpAny_tryCatch (W.item (j + 1) s1 _ _ (by rw [hsz]; exact hlt) ⟨hit, hls⟩ fun v h' tk' hP hst' hk' => ?_))
    have hvn : vs[j + 1]? = some v := by simpa using hP
    obtain ⟨oI', hoI', hoc, hod⟩ := id hst'.1
    have hzz : ns[j + 1]? = some ns[j + 1] := List.getElem?_eq_getElem hlt
    have hzm : ns[j + 1] ∈ ns := List.getElem_mem hlt
    generalize ns[j + 1] = z at *
    obtain ⟨tz, hvz⟩ := hv.get (j + 1) z hzz
    rw [hvn] at hvz
    cases hvz
    have J1 := OI.turn (h' := h') (t' := tk') J fun b o e q => hk' b o (fun z => e (List.mem_singleton.mp z)) q
    have hS1 := hk' S _ (by simpa using hSI) gS
    have kp1 : KeptU X H h0 h' := fun b o e n fr => by
      have e1 := kp b o e n fr
      refine hk' b o (fun z => ?_) e1
      rw [List.mem_singleton.mp z, hI0] at e
      cases e
    show wpAny _ X.A.in1 (tryCatch (holding [.int z tz] (call (.ref f) [.int z tz])) _ >>= _) _ _ _
    refine wpAny_bind (wpAny_tryCatch (wpAny_holding (wpAny_mono (turn _ z tz hzm J1 kp1) (fun x s2 he => ?_) fun _ _ hF => hF.elim)))
    obtain ⟨t2, rfl, J2, k2⟩ := he
    have gS2 := k2 S _ hS1 OS.n OS.fr
    have gI2 := k2 Ia _ hoI' OI.n OI.fr
    have hit2 : s2.heap.IsListIter Ia l (j + 1 + 1) := ⟨oI', gI2, hoc, hod⟩
    have kp2 := kp1.trans k2
    show wpAny _ X.A.in1 (tryCatch (holding [.int z tz, .int (kf z) t2] (richCompare .Gt (.int (kf z) t2) (.int (kf zb) tb) >>= _)) _ >>= _) _ _ _
    refine wpAny_bind (wpAny_tryCatch (wpAny_holding (wpAny_bind (CmpOf.ints_gt (prog := X.prog) (w := X.w) (A := X.A.in1) (P := fun i v => ∃ t, v = .int (if i = 0 then kf zb else kf z) t) (fun i => if i = 0 then kf zb else kf z) (fun i v h => h) 1 0 _ _ _ _ _ ⟨t2, rfl⟩ ⟨tb, rfl⟩ ?_))))
    refine wpAny_bind (wpAny_holding (wpAny_truthy_bool ?_))
    refine wpAny_bind (wpAny_letGo (wpAny_pure ?_))
    have e10 : (if (1 : Nat) = 0 then kf zb else kf z) = kf z := if_neg (by decide)
    have e00 : (if (0 : Nat) = 0 then kf zb else kf z) = kf zb := if_pos rfl
    simp only [e10, if_true]
    have nS1 : ∀ b o, h0.get? b = some o → b ≠ S := fun b o e z => by rw [z, hS0] at e; cases e
    by_cases hb' : kf z > kf zb
    · have sb := Heap.SameBut.update s2.heap S (Obj.mapSeq fun _ => #[.int z tz, .int (kf z) t2])
      obtain ⟨c2, hc2⟩ : ∃ c2, (s2.heap.update S (Obj.mapSeq fun _ => #[.int z tz, .int (kf z) t2])).get? S = some (seqObj "list" #[.int z tz, .int (kf z) t2] c2) := ⟨_, get?_update_seq gS2 fun _ => #[.int z tz, .int (kf z) t2]⟩
      simp only [hb', decide_true, if_true]
      refine wpAny_bind ?_
      refine wpAny_updateSeq gS2 rfl (wpAny_bind (wpAny_letGo ?_))
      rw [hname]
      refine wpAny_pure ⟨plainId_quiet PySem.F.plain_max_loop _, ih (j + 1) _ z tz t2 c2 (by omega) (by omega) (OS.turn (t' := s2.toks) J2 fun b o e q => (sb.2 b e).trans q) (fun b o e n fr => (sb.2 b (nS1 b o e)).trans (kp2 b o e n fr)) hc2 ⟨oI', (sb.2 Ia hSI.symm).trans gI2, hoc, hod⟩ hzm fun j' hj' y hy => ?_⟩
      by_cases e : j' = j + 1
      · subst e
        rw [hzz] at hy
        cases hy
        exact Int.le_refl _
      · have := hbest j' (by omega) y hy
        omega
    · simp only [hb', decide_false, Bool.false_eq_true, if_false]
      refine wpAny_bind (wpAny_letGo ?_)
      rw [hname]
      refine wpAny_pure ⟨plainId_quiet PySem.F.plain_max_loop _, ih (j + 1) s2 zb t1 tb c (by omega) (by omega) J2 kp2 gS2 hit2 hzb fun j' hj' y hy => ?_⟩
      by_cases e : j' = j + 1
      · subst e
        rw [hzz] at hy
        cases hy
        omega
      · exact hbest j' (by omega) y hy
/-- max(l, key=f) -/
theorem max_runI {l f : Addr} {ns : List Int} (kf : Int → Int) (I : Inv X pins σ H s) (hs : SqL X.K H l (ns.map V.int)) (hne : 0 < ns.length) (hh : X.A.handled = none)
    (turn : ∀ (s1 : Shared) (z : Int) (t : Tok), z ∈ ns → Inv X pins σ H s1 → KeptU X H s.heap s1.heap → wpAny (model X.prog X.w) X.A.in1 (call (.ref f) [.int z t]) (fun u s2 => ∃ t', u = .int (kf z) t' ∧ Inv X pins σ H s2 ∧ KeptU X H s1.heap s2.heap) (fun _ _ => False) s1)
    {Q : Value → Shared → Prop} {E : Value → Shared → Prop} (hQ : ∀ z t s', z ∈ ns → (∀ y ∈ ns, kf y ≤ kf z) → Inv X pins σ H s' → Q (.int z t) s') :
    wpAny (model X.prog X.w) X.A (call (.builtin "max") [.ref l] [(Str.ofString "key", .ref f)]) Q E s := by
  have hname : (toString "max" ++ toString ".loop" : String) = "max.loop" := by decide
  obtain ⟨vs, hv, hls⟩ := list_raw I hs
  have hvl := hv.length
  obtain ⟨ol, hol, _⟩ := id hls
  have hll : l < s.heap.objs.size := Heap.lt_size hol
  refine kmk_tree PySem.F.kind_max PySem.F.plain_max PySem.F.entry_max (kmk_max_key _ _) ?_
  show wpAny _ X.A.in1 (Builtin.Builtins.bindParams "max" ["key", "default"] 0 ⟨[], [(Str.ofString "key", .ref f)]⟩ >>= _) _ _ s
  refine wpAny_bind (wpAny_of_eq (show Builtin.Builtins.bindParams "max" ["key", "default"] 0 ⟨[], [(Str.ofString "key", .ref f)]⟩ = pure [some (.ref f), none] from rfl) ?_)
  refine wpAny_bind (wpAny_pure ?_)
  refine wpAny_bind (wpAny_pyIter_list hls ?_)
  refine wpAny_bind (wpAny_newList ?_ (Nat.zero_le _))
  rw [hname]
  have hS : (s.heap.push { cls := .type "list_iterator", data := .fields #[.ref l, .int 0 0] }).objs.size = s.heap.objs.size + 1 := size_push' ..
  have hlI : l ≠ s.heap.objs.size := Nat.ne_of_lt hll
  have hSI : (s.heap.push { cls := .type "list_iterator", data := .fields #[.ref l, .int 0 0] }).objs.size ≠ s.heap.objs.size := by rw [hS]; exact Nat.ne_of_gt (Nat.lt_succ_self _)
  have OI := own_of I (Nat.le_refl s.heap.objs.size)
  have OS := own_of I (show s.heap.objs.size ≤ (s.heap.push { cls := .type "list_iterator", data := .fields #[.ref l, .int 0 0] }).objs.size by rw [hS]; exact Nat.le_succ _)
  refine wpAny_pure ⟨plainId_quiet PySem.F.plain_max_loop _, ?_⟩
  have gI : ((s.heap.push { cls := .type "list_iterator", data := .fields #[.ref l, .int 0 0] }).push (seqObj "list" #[] 0)).get? s.heap.objs.size = some { cls := .type "list_iterator", data := .fields #[.ref l, .int 0 0] } :=
    Heap.get?_push_of_some _ (Heap.get?_push_size _ rfl)
  have gS : ((s.heap.push { cls := .type "list_iterator", data := .fields #[.ref l, .int 0 0] }).push (seqObj "list" #[] 0)).get? (s.heap.push { cls := .type "list_iterator", data := .fields #[.ref l, .int 0 0] }).objs.size = some (seqObj "list" #[] 0) := Heap.get?_push_size _ rfl
  have kk : ∀ b o, s.heap.get? b = some o → ((s.heap.push { cls := .type "list_iterator", data := .fields #[.ref l, .int 0 0] }).push (seqObj "list" #[] 0)).get? b = some o := fun b o e => Heap.get?_push_of_some _ (Heap.get?_push_of_some _ e)
  have hI0 : s.heap.get? s.heap.objs.size = none := Heap.get?_none_of_le (Nat.le_refl _)
  have hS0 : s.heap.get? (s.heap.push { cls := .type "list_iterator", data := .fields #[.ref l, .int 0 0] }).objs.size = none := Heap.get?_none_of_le (by rw [hS]; exact Nat.le_succ _)
  generalize (s.heap.push { cls := .type "list_iterator", data := .fields #[.ref l, .int 0 0] }).objs.size = S at *
  generalize ((s.heap.push { cls := .type "list_iterator", data := .fields #[.ref l, .int 0 0] }).push (seqObj "list" #[] 0)) = h1 at *
  generalize s.heap.objs.size = Ia at *
  have J0 : ∀ tk, Inv X pins σ H { s with heap := h1, toks := tk } := fun tk => I.kept kk
  refine codeAny_builtin PySem.F.entry_max_loop ?_
  rw [Around.under_plainId PySem.F.plain_max_loop _]
  have J := J0 s.toks
  obtain ⟨vs1, hv1, hls1⟩ := list_raw J hs
  have hvl1 := hv1.length
  have W := Walks.list (prog := X.prog) (w := X.w) (A := X.A.in1) hh Ia l hlI vs1.toArray
  have hsz : vs1.toArray.size = ns.length := by rw [List.size_toArray]; exact hvl1
  show wpAny _ X.A.in1 (seqItems? (.ref S) >>= _) _ _ _
  refine wpAny_bind (wpAny_seqItems gS rfl ?_)
  show wpAny _ X.A.in1 (tryCatch (pyNext (.ref Ia)) _ >>= _) _ _ _
  refine wpAny_bind (wpAny_tryCatch (W.item 0 { s with heap := h1, toks := s.toks } _ _ (by rw [hsz]; exact hne) ⟨⟨_, gI, rfl, rfl⟩, hls1⟩ fun v h' tk' hP hst' hk' => ?_))
  have hvn : vs1[0]? = some v := by simpa using hP
  obtain ⟨oI', hoI', hoc, hod⟩ := id hst'.1
  have hzz : ns[0]? = some ns[0] := List.getElem?_eq_getElem hne
  have hzm : ns[0] ∈ ns := List.getElem_mem hne
  generalize ns[0] = z at *
  obtain ⟨tz, hvz⟩ := hv1.get 0 z hzz
  rw [hvn] at hvz
  cases hvz
  have J1 := OI.turn (h' := h') (t' := tk') J fun b o e q => hk' b o (fun z => e (List.mem_singleton.mp z)) q
  have hS1 := hk' S _ (by simpa using hSI) gS
  have kp1 : KeptU X H s.heap h' := fun b o e n fr => by
    refine hk' b o (fun z => ?_) (kk b o e)
    rw [List.mem_singleton.mp z, hI0] at e
    cases e
  show wpAny _ X.A.in1 (tryCatch (holding [.int z tz] (call (.ref f) [.int z tz])) _ >>= _) _ _ _
  refine wpAny_bind (wpAny_tryCatch (wpAny_holding (wpAny_mono (turn _ z tz hzm J1 kp1) (fun x s2 he => ?_) fun _ _ hF => hF.elim)))
  obtain ⟨t2, rfl, J2, k2⟩ := he
  have gS2 := k2 S _ hS1 OS.n OS.fr
  have gI2 := k2 Ia _ hoI' OI.n OI.fr
  have kp2 := kp1.trans k2
  have nS1 : ∀ b o, s.heap.get? b = some o → b ≠ S := fun b o e z => by rw [z, hS0] at e; cases e
  have sb := Heap.SameBut.update s2.heap S (Obj.mapSeq fun _ => #[.int z tz, .int (kf z) t2])
  obtain ⟨c2, hc2⟩ : ∃ c2, (s2.heap.update S (Obj.mapSeq fun _ => #[.int z tz, .int (kf z) t2])).get? S = some (seqObj "list" #[.int z tz, .int (kf z) t2] c2) := ⟨_, get?_update_seq gS2 fun _ => #[.int z tz, .int (kf z) t2]⟩
  show wpAny _ X.A.in1 (updateSeq S (fun _ => #[.int z tz, .int (kf z) t2]) >>= _) _ _ _
  refine wpAny_bind ?_
  refine wpAny_updateSeq gS2 rfl ?_
  rw [hname]
  refine wpAny_pure ⟨plainId_quiet PySem.F.plain_max_loop _, max_loopI kf hs OI OS hSI hlI s.heap hI0 hS0 hh turn (fun z t s' h1 h2 h3 => hQ z t s' h1 h2 h3) _ 0 _ z tz t2 c2 rfl hne (OS.turn (t' := s2.toks) J2 fun b o e q => (sb.2 b e).trans q) (fun b o e n fr => (sb.2 b (nS1 b o e)).trans (kp2 b o e n fr)) hc2 ⟨oI', (sb.2 Ia hSI.symm).trans gI2, hoc, hod⟩ hzm fun j' hj' y hy => ?_⟩
  have e : j' = 0 := by omega
  subst e
  rw [hzz] at hy
  cases hy
  exact Int.le_refl _
end
section
variable {X : Cx}
/-- the reading of max(e, key=lambda ..): tb reads the lambda's body; js: where the captured names stand -/
def tMaxL (T : List (Addr × Str)) (N : List Str) (js : List Nat) (t : TA) (tb : TE) : TE := fun σ H Q => t σ H fun vs H1 => LamX.Tabs T H1 ∧ ∃ (l : Addr) (ns : List Int) (kf : Int → Int), vs = [.ref l] ∧ H1 l = some (.lst (ns.map V.int)) ∧ 0 < ns.length ∧
  ∀ H2, LamX.ExtN H1 H2 → LamX.Tabs T H2 → (∀ z ∈ ns, tb (NdefX.startF N [V.int z] (js.map (NdefX.slotAt σ))) H2 (fun v H3 => H3 = H2 ∧ v = .int (kf z))) ∧ ∀ z ∈ ns, (∀ y ∈ ns, kf y ≤ kf z) → Q (.int z) H2
theorem pe_maxlam {T : List (Addr × Str)} {N fr : List Str} {a : Str} {js : List Nat} {t : TA} {tb : TE} {e : Expr} {params : Arguments} {body : Expr} {scope : Scope} {c P : Addr} {k : Nat} {p lpos kpos pos : Pos}
    (hg : Gl X "max") (hmx : X.mg "max" = none) (hv : bootBuiltins "max" = some (.builtin "max")) (he : PA X [e] t)
    (TB : LamX.TabB X.base X.mg c P) (hcode : X.env.code = .ref c) (hmT : (P, X.env.qual ++ "<lambda>") ∈ T) (hu : ∀ p ∈ T, p.1 = P → p.2 = X.env.qual ++ "<lambda>") (hdef : defaultsOf params X.env = ([], []))
    (hr : Room (k + 2) X.A) (S : NdefX.NScope N [a] fr scope) (hfree : ∀ y ∈ scope.names, y.2 = .free → X.env.scope.names.lookup y.1 = some .cell ∨ X.env.scope.names.lookup y.1 = some .free)
    (hfr : ∀ y ∈ fr, (y, NameKind.free) ∈ scope.names) (hjs : js.map (fun j => X.N[j]?) = fr.map some)
    (hbind : ∀ (q : Str) (cl : List (Str × Addr)) (pm cv ctv u : Value), bindArgs (PySem.W.kla_fn "<lambda>" q params body scope cl pm cv ctv) ⟨[u], []⟩ = pure ([a].zip [u]))
    (hbody : ∀ (A : Around) (outer : List PySem.Env) (s : Shared) (H : Hp) (f c' : Addr), Room k (A.deeper (NdefX.envF (lamF (X.env.qual ++ "<lambda>") params scope (cloFrom X.env.cells scope.names []) c') f s.heap.objs.size)) →
      PE (NdefX.ncx CX0 X.prog X.w X.K X.mg X.base N (lamF (X.env.qual ++ "<lambda>") params scope (cloFrom X.env.cells scope.names []) c') f A outer s H (fun _ _ _ => False)) body tb)
    (hes : backTo pos (starEach [e] X.env) = (false, eval e X.env) :: backTo pos (starEach [] X.env) := by rfl) (hpl : (backTo pos (starEach [e] X.env)).any (·.1) = false := by rfl) :
    PE X (.Call (.Name "max" p) [e] [⟨some "key", .Lambda params body scope lpos, kpos⟩] pos) (tMaxL T N js t tb) := by
  refine ⟨fun pins s σ H Q I h => ?_⟩
  refine wpAny_Call_Name_kw (ld_blt I hg hmx hv ?_ (by decide) (by decide))
  refine PyProof.Rows.callWith_kw (thn (he.run pos pins s σ H _ I h) fun us s1 ⟨vs, H1, I1, r1, q1⟩ => ?_) hes hpl rfl rfl
  obtain ⟨hT, l, ns, kf, rfl, hl, hne, hq⟩ := q1
  obtain ⟨u1, rfl, ru⟩ := r1.one
  cases ru
  refine PyProof.Rows.kwAll_cons ?_
  have hfree2 := fun y hy (e : y.2 = NameKind.free) => (hfree y hy e).elim (fun z => I1.ok.has _ (.inl z)) fun z => I1.ok.has _ (.inr z)
  refine LamX.lam_make2 I1 TB hcode hmT hu hT hdef hfree2 fun f c' pm ctv H2 s2 I2 eN T2 hf hfn hfr2 hco => ?_
  refine PyProof.Rows.kwAll_nil ?_
  obtain ⟨hb, hk⟩ := hq H2 eN T2
  have hl2 : H2 l = some (.lst (ns.map V.int)) := eN _ _ hl (fun ps z => nomatch z)
  have cap : NdefX.Caps X (cloFrom X.env.cells scope.names []) fr js := NdefX.Caps.made I1.ok hfree hfr hjs
  show wpAny _ _ (call (.builtin "max") [.ref l] [(Str.ofString "key", .ref f)]) _ _ s2
  refine max_runI kf I2 (.inl (.inl hl2)) hne hr.hd (fun s3 z t hz J kp => ?_) fun z t s3 hz hm J => ⟨.int z, H2, J, ⟨t, rfl⟩, hk z hz hm⟩
  have of3 := kp f _ hf hfn hfr2
  refine wpAny_call (codeAny_mono (lam_run (E := fun _ _ _ => False) (CX := CX0) (Q := fun v H3 => H3 = H2 ∧ v = .int (kf z)) (outer := X.stack) (vs := [.int z]) S (hbind _ _ _ _ _ _) hr.in1 J.env0.in1 of3 hco (NdefX.cells_of J cap) (.cons ⟨t, rfl⟩ .nil) rfl fun hr2 => ⟨tb, hbody _ _ _ _ _ _ hr2, hb z hz⟩) fun r s4 hq => ?_)
  cases r with
  | error e => exact (show False from hq).elim
  | ok fl =>
    cases fl with
    | ret u =>
      obtain ⟨v, H', os, bare, un, hok, rv, rfl, rfl⟩ := id (show CE X.stack X.prog X.w H2 s3 (fun v H3 => H3 = H2 ∧ v = .int (kf z)) u s4 from hq)
      obtain ⟨v2, H3, J2, rv2, rfl, rfl⟩ := J.after hq
      obtain ⟨t', rfl⟩ := rv
      exact ⟨t', rfl, J2, fun b o e n fr => un.keep b o e n fr (fun z => nomatch z)⟩
    | next => exact False.elim hq
    | brk => exact False.elim hq
    | cont => exact False.elim hq
end
/-- a def whose code object is known -/
theorem fun_okC {P : Program} {w : World} {K : PySem.W.Frag} {mg : Str → Option Value} {base : Heap} {x qual : Str} {st : Stmt} {f : Addr} {fd : FuncData} {N ps : List Str} {k : Nat} {sp : Sp} {p : He.Defn} (F : Fun K x qual st f fd) (hf : f = He.fAd K p) (S : FnScope N ps (defScope st)) (len : ∀ vs H Q E, sp vs H Q E → vs.length = ps.length)
    (hbody : ∀ (cdv : Value) (A : Around) (outer : List PySem.Env) (s : Shared) (H : Hp) (vs : List V) (Q : VK) (E : XK), Room k (A.deeper (envOfC qual (defScope st) s.heap.objs.size f cdv)) → cdv = .ref (He.cT K p).1 → sp vs H Q E →
      ∃ t, PSs (cxOf CX0 P w K mg base N qual (defScope st) f cdv A outer s H E).nox (defBody st) t ∧ t { nx := fun _ H' => Q .non H', rt := Q } (start N vs) H) : FnOk P w K mg base CX0 (k + 1) f fd ps sp := by
  obtain ⟨oc, od, kV, doc, pm, an, cdv, ct, osl, rfl, lk, hcd⟩ := F.ex
  obtain ⟨c, rfl⟩ := He.codeIn_ref hcd
  have e : He.codeOf K p = c := He.codeOf_eq (by rw [← hf]; exact lk) rfl
  refine fn_of lk hcd S len fun A outer s H vs Q E hr hsp => ?_
  obtain ⟨t, h, q⟩ := hbody (.ref c) A outer s H vs Q E hr (congrArg Value.ref e.symm) hsp
  exact ⟨t, h.nox, q⟩
/-- a law whose program has an empty table -/
theorem walk_ofTE {l : PySem.W.OpenLaw} {n k : Nat} {q : Program} {loose : List Str} {XP : (Str → Option Value) → Heap → Prop} {YP : World → Heap → Prop} {d : DefRec} {CX : CXT} {x : Str}
    (hn : l.most = some n) (hn2 : n ≤ sizeLine) (hdf : d.params.defaults = []) (hr : Room k callerA)
    (F : ∀ (w : World) (mg : Str → Option Value) (fa : Addr) (h : Heap), YP w h → h.Ns mainGlobals mg → mg d.name = some (.ref fa) →
      ∃ (K : PySem.W.Frag) (fd : FuncData) (sp : Sp) (cs : List (Addr × Addr)), K.In h ∧ (∀ p ∈ cs, h.get? p.2 = some { cls := .none, data := .fields #[] }) ∧ (∀ p ∈ cs, K.lookup p.2 = none) ∧ (∀ p ∈ cs, PySem.W.CodeHd h p.1 p.2) ∧ (∀ (s : Shared) (u : Value), BindsTo s fd ⟨[u], []⟩ [(x, u)]) ∧
        (∀ (H : Hp) (a : Addr) (ns : List Int), ns.length ≤ n → (∀ p ∈ cs, H p.2 = some (.tbl #[])) → SqL K H a (ns.map V.int) → sp [.ref a] H (fun v _ => v = .bl true) fun _ _ _ => False) ∧
        ∀ base : Heap, K.In base → base.Ns mainGlobals mg → (∀ p ∈ cs, LamX.TabB base mg p.1 p.2) → FnOk l.prog w K mg base CX k fa fd [x] sp)
    (hCX : ∀ (H : Hp) (s : Shared) (e : Value) (s' : Shared), CX [] H s (fun _ _ _ => False) e s' → False) :
    PySem.W.WalkO q loose XP YP l.row.toRowW d [] (fun f vs => PySem.call f vs) := by
  refine Att.attach_call hn hdf fun w s₀ s₁ mg mb fa o pm cd doc a vs ns G Y ho hd hcd hmg hobj hints hlen hg => ?_
  obtain ⟨K, fd, sp, cs, KX, hT, nT, C, hb, hsp, hF⟩ := F w mg fa _ Y G.T.g hmg
  exact LamX.law_callTs KX G.T.g G.T.b G.T.builtins G.T.nolimit hg hT nT C G.T.bmain hobj hints (Nat.le_trans hlen hn2) hr hF hb (fun H hH hS => hsp H a ns hlen hH hS) fun H e s' => hCX H s₁ e s'
/-- the lambda's name -/
def lamQ : Str := Str.ofString "busiest" ++ Str.ofString ".<locals>." ++ Str.ofString "<lambda>"

/-! ### lists of pairs of whole numbers -/
inductive All2 {α β : Type} (R : α → β → Prop) : List α → List β → Prop
  | nil : All2 R [] []
  | cons {x : α} {y : β} {xs : List α} {ys : List β} : R x y → All2 R xs ys → All2 R (x :: xs) (y :: ys)
theorem All2.length {α β : Type} {R : α → β → Prop} {xs : List α} {ys : List β} (h : All2 R xs ys) : xs.length = ys.length := by
  induction h with
  | nil => rfl
  | cons _ _ ih => rw [List.length_cons, List.length_cons, ih]
theorem All2.mono {α β : Type} {R R' : α → β → Prop} {xs : List α} {ys : List β} (h : All2 R xs ys) (f : ∀ x y, R x y → R' x y) : All2 R' xs ys := by
  induction h with
  | nil => exact .nil
  | cons a _ ih => exact .cons (f _ _ a) ih
theorem All2.app {α β : Type} {R : α → β → Prop} {xs xs' : List α} {ys ys' : List β} (h : All2 R xs ys) (h' : All2 R xs' ys') : All2 R (xs ++ xs') (ys ++ ys') := by
  induction h with
  | nil => exact h'
  | cons a _ ih => exact .cons a ih
theorem All2.at {α β : Type} {R : α → β → Prop} {xs : List α} {ys : List β} (h : All2 R xs ys) : ∀ {i : Nat} {x : α}, xs[i]? = some x → ∃ y, ys[i]? = some y ∧ R x y := by
  induction h with
  | nil => intro i x e; cases e
  | cons a _ ih =>
    intro i x e
    cases i with
    | zero => obtain rfl := Option.some.inj e; exact ⟨_, rfl, a⟩
    | succ i => exact ih e
theorem All2.at' {α β : Type} {R : α → β → Prop} {xs : List α} {ys : List β} (h : All2 R xs ys) : ∀ {i : Nat} {y : β}, ys[i]? = some y → ∃ x, xs[i]? = some x ∧ R x y := by
  induction h with
  | nil => intro i x e; cases e
  | cons a _ ih =>
    intro i x e
    cases i with
    | zero => obtain rfl := Option.some.inj e; exact ⟨_, rfl, a⟩
    | succ i => exact ih e
theorem All2.take {α β : Type} {R : α → β → Prop} {xs : List α} {ys : List β} (h : All2 R xs ys) : ∀ i, All2 R (xs.take i) (ys.take i) := by
  induction h with
  | nil => intro i; rw [List.take_nil, List.take_nil]; exact .nil
  | cons a _ ih =>
    intro i
    cases i with
    | zero => exact .nil
    | succ i => exact .cons a (ih i)
theorem All2.drop {α β : Type} {R : α → β → Prop} {xs : List α} {ys : List β} (h : All2 R xs ys) : ∀ i, All2 R (xs.drop i) (ys.drop i) := by
  induction h with
  | nil => intro i; rw [List.drop_nil, List.drop_nil]; exact .nil
  | cons a t ih =>
    intro i
    cases i with
    | zero => exact .cons a t
    | succ i => exact ih i
theorem All2.one {α β : Type} {R : α → β → Prop} {x : α} {y : β} (h : R x y) : All2 R [x] [y] := .cons h .nil
def PrAt (K : PySem.W.Frag) (H : Hp) (x : V) (p : Int × Int) : Prop := ∃ t, x = V.ref t ∧ H t = some (.tup [.int p.1, .int p.2])
abbrev PrL (K : PySem.W.Frag) (H : Hp) (xs : List V) (l : List (Int × Int)) : Prop := All2 (PrAt K H) xs l
theorem PrAt.mono {H H' : Hp} {x : V} {p : Int × Int} (s : Same H H') (h : PrAt K H x p) : PrAt K H' x p := by
  obtain ⟨t, e, ht⟩ := h
  exact ⟨t, e, s _ _ ht⟩
theorem PrL.mono {H H' : Hp} {xs : List V} {l : List (Int × Int)} (s : Same H H') (h : PrL K H xs l) : PrL K H' xs l := All2.mono h fun _ _ q => q.mono s
/-- all tuples of H stand in H' -/
def TupS (H H' : Hp) : Prop := ∀ t xs, H t = some (.tup xs) → H' t = some (.tup xs)
theorem TupS.of {H H' : Hp} (s : Same H H') : TupS H H' := fun t xs e => s _ _ e
theorem TupS.trans {H H' H2 : Hp} (s : TupS H H') (s' : TupS H' H2) : TupS H H2 := fun t xs e => s' _ _ (s _ _ e)
theorem TupS.put {H : Hp} {p : Addr} {xs : List V} {o : HO} (h : H p = some (.lst xs)) : TupS H (upd H p o) := fun t ys e => by
  rw [upd_ne (ne_of e h (fun z => nomatch z))]
  exact e
theorem PrL.tups {H H' : Hp} {xs : List V} {l : List (Int × Int)} (s : TupS H H') (h : PrL K H xs l) : PrL K H' xs l := All2.mono h fun _ _ ⟨t, e, ht⟩ => ⟨t, e, s _ _ ht⟩
theorem PrAt.sq {H : Hp} {x : V} {p : Int × Int} (h : PrAt K H x p) : ∃ t, x = V.ref t ∧ SqT K H t [.int p.1, .int p.2] := by
  obtain ⟨t, e, ht⟩ := h
  exact ⟨t, e, .inl (.inl ht)⟩
/-! pairs in order -/
def le2 (p q : Int × Int) : Prop := p.1 < q.1 ∨ (p.1 = q.1 ∧ p.2 ≤ q.2)
instance (p q : Int × Int) : Decidable (le2 p q) := by unfold le2; exact inferInstance
theorem le2_anti {p q : Int × Int} (h : le2 p q) (h' : le2 q p) : p = q := by
  unfold le2 at h h'
  exact Prod.ext (by omega) (by omega)
theorem le2_total (p q : Int × Int) : le2 p q ∨ le2 q p := by unfold le2; omega
theorem le2_trans {p q r : Int × Int} (h : le2 p q) (h' : le2 q r) : le2 p r := by unfold le2 at *; omega
def sort2 (l : List (Int × Int)) : List (Int × Int) := l.mergeSort fun p q => decide (le2 p q)
theorem sort2_perm (l : List (Int × Int)) : (sort2 l).Perm l := List.mergeSort_perm _ _
theorem sort2_sorted (l : List (Int × Int)) : (sort2 l).Pairwise le2 := by
  have := List.pairwise_mergeSort (le := fun p q => decide (le2 p q)) (fun a b c h1 h2 => decide_eq_true (le2_trans (of_decide_eq_true h1) (of_decide_eq_true h2)))
    (fun a b => by rcases le2_total a b with h | h <;> simp [h]) l
  exact this.imp fun h => of_decide_eq_true h
theorem sort2_uniq {l m : List (Int × Int)} (h1 : m.Perm l) (h2 : m.Pairwise le2) : m = sort2 l :=
  List.Perm.eq_of_pairwise (le := le2) (fun _ _ _ _ => le2_anti) h2 (sort2_sorted l) (h1.trans (sort2_perm l).symm)
theorem sort2_self {l : List (Int × Int)} (h : l.Pairwise le2) : sort2 l = l := (sort2_uniq (List.Perm.refl _) h).symm
theorem sort2_mem {l : List (Int × Int)} {p : Int × Int} : p ∈ sort2 l ↔ p ∈ l := (sort2_perm l).mem_iff
theorem sort2_len (l : List (Int × Int)) : (sort2 l).length = l.length := (sort2_perm l).length_eq
theorem sort2_eq {l m : List (Int × Int)} (h : l.Perm m) : sort2 l = sort2 m := sort2_uniq ((sort2_perm l).trans h) (sort2_sorted l)
theorem sort2_nodup {l : List (Int × Int)} (h : l.Nodup) : (sort2 l).Nodup := (sort2_perm l).nodup_iff.mpr h
/-! sorted -/
def kOf (H : Hp) : V → Int × Int
  | .ref t => match H t with
    | some (.tup [.int i, .int j]) => (i, j)
    | _ => (0, 0)
  | _ => (0, 0)
theorem PrAt.k {H : Hp} {x : V} {p : Int × Int} (h : PrAt K H x p) : kOf H x = p := by
  obtain ⟨t, rfl, ht⟩ := h
  show (match H t with | some (.tup [.int i, .int j]) => (i, j) | _ => (0, 0)) = p
  rw [ht]
theorem PrL.k {H : Hp} {xs : List V} {l : List (Int × Int)} (h : PrL K H xs l) : xs.map (kOf H) = l := by
  induction h with
  | nil => rfl
  | cons a _ ih => rw [List.map_cons, a.k, ih]
theorem PrL.mem {H : Hp} {xs : List V} {l : List (Int × Int)} (h : PrL K H xs l) : ∀ x ∈ xs, PrAt K H x (kOf H x) := by
  induction h with
  | nil => intro x hx; cases hx
  | cons a _ ih =>
    intro x hx
    rcases List.mem_cons.mp hx with e | hx
    · subst e; rw [a.k]; exact a
    · exact ih x hx
theorem PrL.of_k {H : Hp} : ∀ {ys : List V}, (∀ x ∈ ys, PrAt K H x (kOf H x)) → PrL K H ys (ys.map (kOf H))
  | [], _ => .nil
  | y :: ys, h => .cons (h y (List.mem_cons_self ..)) (PrL.of_k fun x hx => h x (List.mem_cons_of_mem _ hx))
def rSort2 (K : PySem.W.Frag) : List V → Hp → VK → Prop := fun vs H Q => ∃ (a : Addr) (xs : List V) (l : List (Int × Int)), vs = [V.ref a] ∧ SqL K H a xs ∧ PrL K H xs l ∧
  ∀ ys p, PrL K H ys (sort2 l) → H p = none → Q (.ref p) (upd H p (.lst ys))
theorem cr_sort2 {X : Cx} : CallR X (.builtin "sorted") (rSort2 X.K) := by
  intro pins s σ H vs us Q I r h
  obtain ⟨a, xs, l, rfl, hs, hP, q⟩ := h
  refine cr_sortedPO pins s σ H _ us Q I r ⟨a, xs, kOf H, rfl, hs, fun x hx => hP.mem x hx, fun ys p h1 h2 hp => q ys p ?_ hp⟩
  have hm := PrL.of_k (K := X.K) (H := H) (ys := ys) fun x hx => hP.mem x (h2.perm.mem_iff.mp hx)
  have e : ys.map (kOf H) = sort2 l := by
    refine sort2_uniq ?_ ?_
    · rw [← hP.k]; exact h2.perm.map _
    · rw [List.pairwise_map]
      refine List.Pairwise.imp (fun {x y} h => ?_) h1
      have := SrtO.lexB_no.mp h
      unfold le2
      omega
  rw [e] at hm
  exact hm
/-! in, ==, != -/
def dat2 (p : Int × Int) : PyData := .tuple [.int p.1, .int p.2]
theorem dat2_eqv (p q : Int × Int) : PyData.eqv (dat2 p) (dat2 q) = decide (p = q) := by
  obtain ⟨a, b⟩ := p
  obtain ⟨c, d⟩ := q
  show PyData.eqvAll [.int a, .int b] [.int c, .int d] = _
  simp only [PyData.eqvAll, PyData.eqv, Bool.and_true]
  by_cases h1 : a = c <;> by_cases h2 : b = d <;> simp [h1, h2]
theorem dat2s_eqv : ∀ l m : List (Int × Int), PyData.eqvAll (l.map dat2) (m.map dat2) = decide (l = m)
  | [], [] => by simp [PyData.eqvAll]
  | [], _ :: _ => by simp [PyData.eqvAll]
  | _ :: _, [] => by simp [PyData.eqvAll]
  | p :: l, q :: m => by
    rw [List.map_cons, List.map_cons, PySem.W.eqv_all_cons, dat2_eqv, dat2s_eqv l m]
    by_cases e : p = q
    · subst e; simp
    · simp [e]
theorem PrAt.dp {H : Hp} {x : V} {p : Int × Int} (h : PrAt K H x p) : Dp K H x (dat2 p) := by
  obtain ⟨t, rfl, ht⟩ := h
  exact .tup (.inl (.inl ht)) (.cons (.int _) (.cons (.int _) .nil))
theorem PrL.dp {H : Hp} {xs : List V} {l : List (Int × Int)} (h : PrL K H xs l) : DpAll K H xs (l.map dat2) := by
  induction h with
  | nil => exact .nil
  | cons a _ ih => exact .cons a.dp ih
theorem dat2_sh (p : Int × Int) : SeqAt.shaped (dat2 p) = true := rfl
theorem dat2_sh2 (l : List (Int × Int)) (h : l.length ≤ 200) : SeqAt.shaped (.list (l.map dat2)) = true := by
  have key : ∀ l : List (Int × Int), PyData.canLayAll0 (l.map dat2) = true ∧ PyData.depthAll (l.map dat2) ≤ 1 := by
    intro l
    induction l with
    | nil => exact ⟨rfl, by decide⟩
    | cons p l ih =>
      refine ⟨?_, ?_⟩
      · show (PyData.canLay0 (dat2 p) && PyData.canLayAll0 (l.map dat2)) = true
        rw [ih.1]; rfl
      · show max (PyData.depth (dat2 p)) (PyData.depthAll (l.map dat2)) ≤ 1
        have : PyData.depth (dat2 p) = 1 := rfl
        have := ih.2
        omega
  unfold SeqAt.shaped
  have h1 : PyData.canLay0 (.list (l.map dat2)) = true := by
    exact (key l).1
  have h2 : PyData.depth (.list (l.map dat2)) ≤ 64 := by
    have := (key l).2
    simp only [PyData.depth]
    omega
  rw [h1, decide_eq_true h2]
  rfl
theorem any_eqv (l : List (Int × Int)) (p : Int × Int) : ((l.map dat2).any fun z => PyData.eqv z (dat2 p)) = decide (p ∈ l) := by
  induction l with
  | nil => simp
  | cons q l ih =>
    rw [List.map_cons, List.any_cons, ih, dat2_eqv]
    by_cases e : q = p
    · subst e; simp
    · simp [e, Ne.symm e]
def rIn2 (K : PySem.W.Frag) (neg : Bool) : R2 := fun x y H Q => ∃ (p : Int × Int) (a : Addr) (xs : List V) (l : List (Int × Int)), PrAt K H x p ∧ y = .ref a ∧ SqL K H a xs ∧ PrL K H xs l ∧ l.length ≤ 200 ∧ Q (.bl (if neg then !decide (p ∈ l) else decide (p ∈ l))) H
section
variable {X : Cx}
theorem op_in2 (hu : X.A.units + 65 < cLine) : OpR X (compareOp .In) (rIn2 X.K false) := by
  intro pins s σ H x y v u Q I rx ry h
  obtain ⟨p, a, xs, l, hp, rfl, hs, hP, hl, q⟩ := h
  refine op_inD hu pins s σ H _ _ v u Q I rx ry ⟨_, _, hp.dp, .lst hs hP.dp, dat2_sh p, dat2_sh2 l hl, ?_⟩
  rw [any_eqv]
  exact q
theorem op_notIn2 (hu : X.A.units + 65 < cLine) : OpR X (compareOp .NotIn) (rIn2 X.K true) := by
  intro pins s σ H x y v u Q I rx ry h
  obtain ⟨p, a, xs, l, hp, rfl, hs, hP, hl, q⟩ := h
  refine op_notInD hu pins s σ H _ _ v u Q I rx ry ⟨_, _, hp.dp, .lst hs hP.dp, dat2_sh p, dat2_sh2 l hl, ?_⟩
  rw [any_eqv]
  exact q
def rEqL2 (K : PySem.W.Frag) (neg : Bool) : R2 := fun x y H Q => ∃ (a b : Addr) (xs ys : List V) (l m : List (Int × Int)), x = .ref a ∧ y = .ref b ∧ SqL K H a xs ∧ PrL K H xs l ∧ SqL K H b ys ∧ PrL K H ys m ∧ l.length ≤ 200 ∧ m.length ≤ 200 ∧ Q (.bl (if neg then !decide (l = m) else decide (l = m))) H
theorem op_eqL2 (hu : X.A.units + 64 < cLine) : OpR X (compareOp .Eq) (rEqL2 X.K false) := by
  intro pins s σ H x y v u Q I rx ry h
  obtain ⟨a, b, xs, ys, l, m, rfl, rfl, hs, hP, hs', hP', hl, hm, q⟩ := h
  refine op_eqD hu pins s σ H _ _ v u Q I rx ry ⟨_, _, .lst hs hP.dp, .lst hs' hP'.dp, dat2_sh2 l hl, dat2_sh2 m hm, ?_⟩
  show Q (.bl (PyData.eqvAll _ _)) H
  rw [dat2s_eqv]
  exact q
theorem op_neL2 (hu : X.A.units + 64 < cLine) : OpR X (compareOp .NotEq) (rEqL2 X.K true) := by
  intro pins s σ H x y v u Q I rx ry h
  obtain ⟨a, b, xs, ys, l, m, rfl, rfl, hs, hP, hs', hP', hl, hm, q⟩ := h
  refine op_neD hu pins s σ H _ _ v u Q I rx ry ⟨_, _, .lst hs hP.dp, .lst hs' hP'.dp, dat2_sh2 l hl, dat2_sh2 m hm, ?_⟩
  show Q (.bl (!PyData.eqvAll _ _)) H
  rw [dat2s_eqv]
  exact q
def rEqP2 (K : PySem.W.Frag) (neg : Bool) : R2 := fun x y H Q => ∃ (p q : Int × Int), PrAt K H x p ∧ PrAt K H y q ∧ Q (.bl (if neg then !decide (p = q) else decide (p = q))) H
theorem op_eqP2 (hu : X.A.units + 64 < cLine) : OpR X (compareOp .Eq) (rEqP2 X.K false) := by
  intro pins s σ H x y v u Q I rx ry h
  obtain ⟨p, q, hp, hq, k⟩ := h
  refine op_eqD hu pins s σ H _ _ v u Q I rx ry ⟨_, _, hp.dp, hq.dp, dat2_sh p, dat2_sh q, ?_⟩
  rw [dat2_eqv]
  exact k
theorem op_neP2 (hu : X.A.units + 64 < cLine) : OpR X (compareOp .NotEq) (rEqP2 X.K true) := by
  intro pins s σ H x y v u Q I rx ry h
  obtain ⟨p, q, hp, hq, k⟩ := h
  refine op_neD hu pins s σ H _ _ v u Q I rx ry ⟨_, _, hp.dp, hq.dp, dat2_sh p, dat2_sh q, ?_⟩
  rw [dat2_eqv]
  exact k
end
theorem Room.units2 {k : Nat} {A : Around} (r : Room k A) : A.units + 65 < cLine := by have := r.un; omega

/-! ### min, max of a tuple of two whole numbers -/
section
variable {X : Cx}
def rMin2T (K : PySem.W.Frag) (f : Int → Int → Int) : List V → Hp → VK → Prop := fun vs H Q => ∃ (a : Addr) (i j : Int), vs = [V.ref a] ∧ SqT K H a [.int i, .int j] ∧ Q (.int (f i j)) H
theorem tup_of {h : Heap} {a : Addr} {its : Array Value} (t : IsTup h a its) : h.IsTuple a its := t
theorem reads_int {h : Heap} {v : Value} {n : Int} {bs : List Addr} (r : Reads h v (.int n) bs) : ∃ t, v = .int n t := by
  cases r with
  | int => exact ⟨_, rfl⟩
theorem alike2 (i j : Int) : PySem.W.AlikeAll [.int i, .int j] := by
  refine ⟨fun x hx y hy => ?_, fun x hx => ?_⟩
  · simp only [List.mem_cons, List.not_mem_nil, or_false] at hx hy
    rcases hx with rfl | rfl <;> rcases hy with rfl | rfl <;> rfl
  · simp only [List.mem_cons, List.not_mem_nil, or_false] at hx
    rcases hx with rfl | rfl <;> exact fun z => nomatch z
theorem cr_min2T (hc : X.calm = true) (hu : X.A.units + 64 < cLine) : CallR X (.builtin "min") (rMin2T X.K min) := by
  intro pins s σ H vs us Q I r h
  obtain ⟨a, i, j, rfl, hs, q⟩ := h
  obtain ⟨its, rv, hl, _⟩ := I.tuple hs
  rw [Vals.ref1 r]
  obtain ⟨u1, u2, rfl, ⟨t1, e1⟩, ⟨t2, e2⟩⟩ := vals2 rv
  subst e1; subst e2
  refine PySem.W.min_tuple_data (x := .int i) (xs := [.int j]) (I.ok.hd hc) (tup_of hl) (.cons (Reads.int i t1) (.cons (Reads.int j t2) .nil)) (alike2 i j) ?_ fun k v h' tk bs hk hr hh => ?_
  · show X.A.units + 1 + 0 < cLine
    omega
  · have hm : PySem.W.minD (.int i) [.int j] = .int (min i j) := PySem.W.minD_ints i [j]
    rw [hm] at hr
    obtain ⟨t, rfl⟩ := reads_int hr
    exact ⟨.int _, H, I.kept hh, ⟨_, rfl⟩, q⟩
theorem cr_max2T (hc : X.calm = true) (hu : X.A.units + 64 < cLine) : CallR X (.builtin "max") (rMin2T X.K max) := by
  intro pins s σ H vs us Q I r h
  obtain ⟨a, i, j, rfl, hs, q⟩ := h
  obtain ⟨its, rv, hl, _⟩ := I.tuple hs
  rw [Vals.ref1 r]
  obtain ⟨u1, u2, rfl, ⟨t1, e1⟩, ⟨t2, e2⟩⟩ := vals2 rv
  subst e1; subst e2
  refine PySem.W.max_tuple_data (x := .int i) (xs := [.int j]) (I.ok.hd hc) (tup_of hl) (.cons (Reads.int i t1) (.cons (Reads.int j t2) .nil)) (alike2 i j) ?_ fun k v h' tk bs hk hr hh => ?_
  · show X.A.units + 1 + 0 < cLine
    omega
  · have hm : PySem.W.maxD (.int i) [.int j] = .int (max i j) := PySem.W.maxD_ints i [j]
    rw [hm] at hr
    obtain ⟨t, rfl⟩ := reads_int hr
    exact ⟨.int _, H, I.kept hh, ⟨_, rfl⟩, q⟩
end

/-! ### posts parted into plots: the mathematics -/
inductive Tr where
  | lf : Tr
  | nd (m : Int) (l r : Tr) : Tr
def TOk (S : Int → Prop) : Int → Int → Tr → Prop
  | lo, hi, .lf => lo < hi ∧ ∀ z, S z → ¬ (lo < z ∧ z < hi)
  | lo, hi, .nd m l r => S m ∧ TOk S lo m l ∧ TOk S m hi r
def tie : Int → Int → Tr → Int → Int → Prop
  | lo, hi, .lf, a, b => a = lo ∧ b = hi
  | lo, hi, .nd m l r, a, b => (a = lo ∧ b = hi) ∨ tie lo m l a b ∨ tie m hi r a b
def graft (v : Int) : Int → Int → Tr → Tr
  | lo, hi, .lf => if lo < v ∧ v < hi then .nd v .lf .lf else .lf
  | lo, hi, .nd m l r => .nd m (graft v lo m l) (graft v m hi r)
theorem TOk.lt {S : Int → Prop} : ∀ {T : Tr} {lo hi : Int}, TOk S lo hi T → lo < hi
  | .lf, _, _, h => h.1
  | .nd m l r, _, _, ⟨_, h1, h2⟩ => Int.lt_trans h1.lt h2.lt
theorem tie_root : ∀ {T : Tr} {lo hi : Int}, tie lo hi T lo hi
  | .lf, _, _ => ⟨rfl, rfl⟩
  | .nd _ _ _, _, _ => .inl ⟨rfl, rfl⟩
theorem tie_in {S : Int → Prop} : ∀ {T : Tr} {lo hi a b : Int}, TOk S lo hi T → tie lo hi T a b → lo ≤ a ∧ a < b ∧ b ≤ hi
  | .lf, lo, hi, a, b, h, ⟨e1, e2⟩ => by subst e1; subst e2; exact ⟨Int.le_refl _, h.1, Int.le_refl _⟩
  | .nd m l r, lo, hi, a, b, ⟨_, h1, h2⟩, t => by
    have q1 := h1.lt
    have q2 := h2.lt
    rcases t with ⟨e1, e2⟩ | t | t
    · subst e1; subst e2; exact ⟨Int.le_refl _, Int.lt_trans q1 q2, Int.le_refl _⟩
    · have := tie_in h1 t; omega
    · have := tie_in h2 t; omega
theorem tie_S {S : Int → Prop} : ∀ {T : Tr} {lo hi a b : Int}, TOk S lo hi T → S lo → S hi → tie lo hi T a b → S a ∧ S b
  | .lf, lo, hi, a, b, h, s1, s2, ⟨e1, e2⟩ => by subst e1; subst e2; exact ⟨s1, s2⟩
  | .nd m l r, lo, hi, a, b, ⟨sm, h1, h2⟩, s1, s2, t => by
    rcases t with ⟨e1, e2⟩ | t | t
    · subst e1; subst e2; exact ⟨s1, s2⟩
    · exact tie_S h1 s1 sm t
    · exact tie_S h2 sm s2 t
theorem tie_adj {S : Int → Prop} : ∀ {T : Tr} {lo hi a b : Int}, TOk S lo hi T → S lo → S hi → S a → S b → a < b → (∀ z, S z → ¬ (a < z ∧ z < b)) → lo ≤ a → b ≤ hi → tie lo hi T a b
  | .lf, lo, hi, a, b, h, s1, s2, sa, sb, hab, hz, h1, h2 => by
    have := h.2 a sa
    have := h.2 b sb
    exact ⟨by omega, by omega⟩
  | .nd m l r, lo, hi, a, b, ⟨sm, h1, h2⟩, s1, s2, sa, sb, hab, hz, g1, g2 => by
    have := hz m sm
    by_cases hm : b ≤ m
    · exact .inr (.inl (tie_adj h1 s1 sm sa sb hab hz g1 hm))
    · exact .inr (.inr (tie_adj h2 sm s2 sa sb hab hz (by omega) g2))
theorem nocross {S : Int → Prop} : ∀ {T : Tr} {lo hi a b c d : Int}, TOk S lo hi T → tie lo hi T a b → tie lo hi T c d → a < c → c < b → b < d → False
  | .lf, lo, hi, a, b, c, d, h, ⟨e1, e2⟩, ⟨e3, e4⟩, h1, h2, h3 => by omega
  | .nd m l r, lo, hi, a, b, c, d, ⟨sm, k1, k2⟩, t, u, h1, h2, h3 => by
    have q1 := k1.lt
    have q2 := k2.lt
    rcases t with ⟨e1, e2⟩ | t | t <;> rcases u with ⟨e3, e4⟩ | u | u
    · omega
    · have := tie_in k1 u; omega
    · have := tie_in k2 u; omega
    · have := tie_in k1 t; omega
    · exact nocross k1 t u h1 h2 h3
    · have := tie_in k1 t; have := tie_in k2 u; omega
    · have := tie_in k2 t; omega
    · have := tie_in k2 t; have := tie_in k1 u; omega
    · exact nocross k2 t u h1 h2 h3
theorem inner {S : Int → Prop} : ∀ {T : Tr} {lo hi a b : Int}, TOk S lo hi T → tie lo hi T a b → (∀ z, S z → ¬ (a < z ∧ z < b)) ∨ ∃ m, a < m ∧ m < b ∧ tie lo hi T a m ∧ tie lo hi T m b
  | .lf, lo, hi, a, b, h, ⟨e1, e2⟩ => by subst e1; subst e2; exact .inl h.2
  | .nd m l r, lo, hi, a, b, ⟨sm, k1, k2⟩, t => by
    rcases t with ⟨e1, e2⟩ | t | t
    · subst e1; subst e2; exact .inr ⟨m, k1.lt, k2.lt, .inr (.inl tie_root), .inr (.inr tie_root)⟩
    · rcases inner k1 t with q | ⟨x, q1, q2, q3, q4⟩
      · exact .inl q
      · exact .inr ⟨x, q1, q2, .inr (.inl q3), .inr (.inl q4)⟩
    · rcases inner k2 t with q | ⟨x, q1, q2, q3, q4⟩
      · exact .inl q
      · exact .inr ⟨x, q1, q2, .inr (.inr q3), .inr (.inr q4)⟩
theorem outer {S : Int → Prop} : ∀ {T : Tr} {lo hi a b : Int}, TOk S lo hi T → tie lo hi T a b → ¬ (a = lo ∧ b = hi) → ∃ p, (p < a ∧ tie lo hi T p a ∧ tie lo hi T p b) ∨ (b < p ∧ tie lo hi T a p ∧ tie lo hi T b p)
  | .lf, lo, hi, a, b, h, t, n => absurd t n
  | .nd m l r, lo, hi, a, b, ⟨sm, k1, k2⟩, t, n => by
    rcases t with t | t | t
    · exact absurd t n
    · by_cases e : a = lo ∧ b = m
      · obtain ⟨e1, e2⟩ := e; subst e1; subst e2
        exact ⟨hi, .inr ⟨k2.lt, .inl ⟨rfl, rfl⟩, .inr (.inr tie_root)⟩⟩
      · obtain ⟨p, q | q⟩ := outer k1 t e
        · exact ⟨p, .inl ⟨q.1, .inr (.inl q.2.1), .inr (.inl q.2.2)⟩⟩
        · exact ⟨p, .inr ⟨q.1, .inr (.inl q.2.1), .inr (.inl q.2.2)⟩⟩
    · by_cases e : a = m ∧ b = hi
      · obtain ⟨e1, e2⟩ := e; subst e1; subst e2
        exact ⟨lo, .inl ⟨k1.lt, .inr (.inl tie_root), .inl ⟨rfl, rfl⟩⟩⟩
      · obtain ⟨p, q | q⟩ := outer k2 t e
        · exact ⟨p, .inl ⟨q.1, .inr (.inr q.2.1), .inr (.inr q.2.2)⟩⟩
        · exact ⟨p, .inr ⟨q.1, .inr (.inr q.2.1), .inr (.inr q.2.2)⟩⟩
theorem TOk.more {S S' : Int → Prop} : ∀ {T : Tr} {lo hi : Int}, TOk S lo hi T → (∀ z, S z → S' z) → (∀ z, S' z → lo < z → z < hi → S z) → TOk S' lo hi T
  | .lf, lo, hi, h, s1, s2 => ⟨h.1, fun z hz hh => h.2 z (s2 z hz hh.1 hh.2) hh⟩
  | .nd m l r, lo, hi, ⟨sm, k1, k2⟩, s1, s2 => ⟨s1 m sm, k1.more s1 fun z hz h1 h2 => s2 z hz h1 (Int.lt_trans h2 k2.lt), k2.more s1 fun z hz h1 h2 => s2 z hz (Int.lt_trans k1.lt h1) h2⟩
theorem graft_ok {S S' : Int → Prop} {v : Int} : ∀ {T : Tr} {lo hi : Int}, TOk S lo hi T → (∀ z, S' z ↔ S z ∨ z = v) → TOk S' lo hi (graft v lo hi T)
  | .lf, lo, hi, h, s => by
    unfold graft
    by_cases e : lo < v ∧ v < hi
    · rw [if_pos e]
      refine ⟨(s v).mpr (.inr rfl), ⟨e.1, fun z hz hh => ?_⟩, e.2, fun z hz hh => ?_⟩
      · rcases (s z).mp hz with hz | hz
        · exact h.2 z hz ⟨hh.1, by omega⟩
        · omega
      · rcases (s z).mp hz with hz | hz
        · exact h.2 z hz ⟨by omega, hh.2⟩
        · omega
    · rw [if_neg e]
      refine ⟨h.1, fun z hz hh => ?_⟩
      rcases (s z).mp hz with hz | hz
      · exact h.2 z hz hh
      · exact e (hz ▸ hh)
  | .nd m l r, lo, hi, ⟨sm, k1, k2⟩, s => ⟨(s m).mpr (.inl sm), graft_ok k1 s, graft_ok k2 s⟩
theorem graft_same {S : Int → Prop} {v : Int} : ∀ {T : Tr} {lo hi : Int}, TOk S lo hi T → ¬ (lo < v ∧ v < hi) → graft v lo hi T = T
  | .lf, lo, hi, h, n => by unfold graft; rw [if_neg n]
  | .nd m l r, lo, hi, ⟨sm, k1, k2⟩, n => by
    have q1 := k1.lt
    have q2 := k2.lt
    unfold graft
    rw [graft_same k1 (by omega), graft_same k2 (by omega)]
theorem graft_tie {S : Int → Prop} {v p q : Int} (nv : ¬ S v) (sp : S p) (sq : S q) (hp : p < v) (hq : v < q) (hz : ∀ z, S z → ¬ (p < z ∧ z < q)) :
    ∀ {T : Tr} {lo hi : Int}, TOk S lo hi T → S lo → S hi → lo < v → v < hi → ∀ a b, tie lo hi (graft v lo hi T) a b ↔ tie lo hi T a b ∨ (a = p ∧ b = v) ∨ (a = v ∧ b = q)
  | .lf, lo, hi, h, s1, s2, g1, g2, a, b => by
    unfold graft
    rw [if_pos ⟨g1, g2⟩]
    have := h.2 p sp
    have := h.2 q sq
    have := hz lo s1
    have := hz hi s2
    have e1 : p = lo := by omega
    have e2 : q = hi := by omega
    subst e1; subst e2
    exact Iff.rfl
  | .nd m l r, lo, hi, ⟨sm, k1, k2⟩, s1, s2, g1, g2, a, b => by
    have hm : m ≠ v := fun e => nv (e ▸ sm)
    unfold graft
    show (_ ∨ tie lo m (graft v lo m l) a b ∨ tie m hi (graft v m hi r) a b) ↔ (_ ∨ _ ∨ _) ∨ _
    by_cases h : v < m
    · rw [graft_same k2 (by omega), graft_tie nv sp sq hp hq hz k1 s1 sm g1 h a b]
      constructor
      · rintro (h | (h | h) | h)
        · exact .inl (.inl h)
        · exact .inl (.inr (.inl h))
        · exact .inr h
        · exact .inl (.inr (.inr h))
      · rintro ((h | h | h) | h)
        · exact .inl h
        · exact .inr (.inl (.inl h))
        · exact .inr (.inr h)
        · exact .inr (.inl (.inr h))
    · rw [graft_same k1 (by omega), graft_tie nv sp sq hp hq hz k2 sm s2 (by omega) g2 a b]
      constructor
      · rintro (h | h | h | h)
        · exact .inl (.inl h)
        · exact .inl (.inr (.inl h))
        · exact .inl (.inr (.inr h))
        · exact .inr h
      · rintro ((h | h | h) | h)
        · exact .inl h
        · exact .inr (.inl h)
        · exact .inr (.inr (.inl h))
        · exact .inr (.inr (.inr h))
/-- neighbours among S, or the first and the last -/
def side (S : Int → Prop) (lo hi a b : Int) : Prop := (∀ z, S z → ¬ (a < z ∧ z < b)) ∨ (a = lo ∧ b = hi)
structure Cut (S : Int → Prop) (lo hi : Int) (R : List (Int × Int)) : Prop where
  slo : S lo
  shi : S hi
  bd : ∀ z, S z → lo ≤ z ∧ z ≤ hi
  nd : R.Nodup
  ex : ∃ T, TOk S lo hi T ∧ ∀ a b, (a, b) ∈ R ↔ tie lo hi T a b ∧ ¬ side S lo hi a b
theorem ear_mid {S S' : Int → Prop} {lo hi v p q : Int} {R : List (Int × Int)} (h : Cut S lo hi R) (s : ∀ z, S' z ↔ S z ∨ z = v) (nv : ¬ S v) (sp : S p) (sq : S q) (hp : p < v) (hq : v < q) (hz : ∀ z, S z → ¬ (p < z ∧ z < q)) (hr : ¬ (p = lo ∧ q = hi)) :
    Cut S' lo hi ((p, q) :: R) := by
  obtain ⟨T, hT, hR⟩ := h.ex
  have b1 := h.bd p sp
  have b2 := h.bd q sq
  have hpq := tie_adj hT h.slo h.shi sp sq (Int.lt_trans hp hq) hz b1.1 b2.2
  refine ⟨(s lo).mpr (.inl h.slo), (s hi).mpr (.inl h.shi), fun z hz => ?_, List.nodup_cons.mpr ⟨fun hm => ?_, h.nd⟩, graft v lo hi T, graft_ok hT s, fun a b => ?_⟩
  · rcases (s z).mp hz with hz | hz
    · exact h.bd z hz
    · omega
  · exact ((hR p q).mp hm).2 (.inl hz)
  · rw [graft_tie nv sp sq hp hq hz hT h.slo h.shi (by omega) (by omega) a b, List.mem_cons, hR a b]
    constructor
    · rintro (e | ⟨t, n⟩)
      · obtain ⟨rfl, rfl⟩ := Prod.mk.inj e
        refine ⟨.inl hpq, ?_⟩
        rintro (w | w)
        · exact w v ((s v).mpr (.inr rfl)) ⟨hp, hq⟩
        · exact hr w
      · refine ⟨.inl t, ?_⟩
        rintro (w | w)
        · exact n (.inl fun z hz => w z ((s z).mpr (.inl hz)))
        · exact n (.inr w)
    · rintro ⟨t | ⟨e1, e2⟩ | ⟨e1, e2⟩, n⟩
      · by_cases e : (a, b) = (p, q)
        · exact .inl e
        · refine .inr ⟨t, ?_⟩
          rintro (w | w)
          · apply n
            left
            intro z hz' hh
            rcases (s z).mp hz' with hz' | hz'
            · exact w z hz' hh
            · subst hz'
              have u := tie_S hT h.slo h.shi t
              have w1 := w p sp
              have w2 := w q sq
              have w3 := hz a u.1
              have w4 := hz b u.2
              have e1 : a = p := by omega
              have e2 : b = q := by omega
              exact e (by rw [e1, e2])
          · exact n (.inr w)
      · subst e1; subst e2
        exact absurd (.inl fun z hz' hh => by
          rcases (s z).mp hz' with hz' | hz'
          · exact hz z hz' ⟨hh.1, by omega⟩
          · omega) n
      · subst e1; subst e2
        exact absurd (.inl fun z hz' hh => by
          rcases (s z).mp hz' with hz' | hz'
          · exact hz z hz' ⟨by omega, hh.2⟩
          · omega) n
theorem ear_first {S S' : Int → Prop} {lo hi v x : Int} {R : List (Int × Int)} (h : Cut S lo hi R) (s : ∀ z, S' z ↔ S z ∨ z = v) (hv : v < lo) (sx : S x) (hx : lo < x ∧ x < hi) : Cut S' v hi ((lo, hi) :: R) := by
  obtain ⟨T, hT, hR⟩ := h.ex
  have hlt := hT.lt
  refine ⟨(s v).mpr (.inr rfl), (s hi).mpr (.inl h.shi), fun z hz => ?_, List.nodup_cons.mpr ⟨fun hm => ?_, h.nd⟩, .nd lo .lf T, ⟨(s lo).mpr (.inl h.slo), ⟨hv, fun z hz hh => ?_⟩, ?_⟩, fun a b => ?_⟩
  · rcases (s z).mp hz with hz | hz
    · have := h.bd z hz; omega
    · omega
  · exact ((hR lo hi).mp hm).2 (.inr ⟨rfl, rfl⟩)
  · rcases (s z).mp hz with hz | hz
    · have := h.bd z hz; omega
    · omega
  · exact hT.more (fun z hz => (s z).mpr (.inl hz)) fun z hz h1 h2 => ((s z).mp hz).resolve_right (by omega)
  · rw [List.mem_cons, hR a b]
    constructor
    · rintro (e | ⟨t, n⟩)
      · obtain ⟨rfl, rfl⟩ := Prod.mk.inj e
        refine ⟨.inr (.inr tie_root), ?_⟩
        rintro (w | w)
        · exact w x ((s x).mpr (.inl sx)) hx
        · omega
      · refine ⟨.inr (.inr t), ?_⟩
        have ti := tie_in hT t
        rintro (w | w)
        · exact n (.inl fun z hz => w z ((s z).mpr (.inl hz)))
        · omega
    · rintro ⟨⟨e1, e2⟩ | ⟨e1, e2⟩ | t, n⟩
      · exact absurd (.inr ⟨e1, e2⟩) n
      · refine absurd (.inl fun z hz hh => ?_) n
        rcases (s z).mp hz with hz | hz
        · have := h.bd z hz; omega
        · omega
      · have ti := tie_in hT t
        by_cases e : (a, b) = (lo, hi)
        · exact .inl e
        · refine .inr ⟨t, ?_⟩
          rintro (w | w)
          · refine n (.inl fun z hz hh => ?_)
            rcases (s z).mp hz with hz | hz
            · exact w z hz hh
            · omega
          · exact e (by rw [w.1, w.2])
theorem ear_last {S S' : Int → Prop} {lo hi v x : Int} {R : List (Int × Int)} (h : Cut S lo hi R) (s : ∀ z, S' z ↔ S z ∨ z = v) (hv : hi < v) (sx : S x) (hx : lo < x ∧ x < hi) : Cut S' lo v ((lo, hi) :: R) := by
  obtain ⟨T, hT, hR⟩ := h.ex
  have hlt := hT.lt
  refine ⟨(s lo).mpr (.inl h.slo), (s v).mpr (.inr rfl), fun z hz => ?_, List.nodup_cons.mpr ⟨fun hm => ?_, h.nd⟩, .nd hi T .lf, ⟨(s hi).mpr (.inl h.shi), ?_, ⟨hv, fun z hz hh => ?_⟩⟩, fun a b => ?_⟩
  · rcases (s z).mp hz with hz | hz
    · have := h.bd z hz; omega
    · omega
  · exact ((hR lo hi).mp hm).2 (.inr ⟨rfl, rfl⟩)
  · exact hT.more (fun z hz => (s z).mpr (.inl hz)) fun z hz h1 h2 => ((s z).mp hz).resolve_right (by omega)
  · rcases (s z).mp hz with hz | hz
    · have := h.bd z hz; omega
    · omega
  · rw [List.mem_cons, hR a b]
    constructor
    · rintro (e | ⟨t, n⟩)
      · obtain ⟨rfl, rfl⟩ := Prod.mk.inj e
        refine ⟨.inr (.inl tie_root), ?_⟩
        rintro (w | w)
        · exact w x ((s x).mpr (.inl sx)) hx
        · omega
      · refine ⟨.inr (.inl t), ?_⟩
        have ti := tie_in hT t
        rintro (w | w)
        · exact n (.inl fun z hz => w z ((s z).mpr (.inl hz)))
        · omega
    · rintro ⟨⟨e1, e2⟩ | t | ⟨e1, e2⟩, n⟩
      · exact absurd (.inr ⟨e1, e2⟩) n
      · have ti := tie_in hT t
        by_cases e : (a, b) = (lo, hi)
        · exact .inl e
        · refine .inr ⟨t, ?_⟩
          rintro (w | w)
          · refine n (.inl fun z hz hh => ?_)
            rcases (s z).mp hz with hz | hz
            · exact w z hz hh
            · omega
          · exact e (by rw [w.1, w.2])
      · refine absurd (.inl fun z hz hh => ?_) n
        rcases (s z).mp hz with hz | hz
        · have := h.bd z hz; omega
        · omega
theorem flip {S : Int → Prop} : ∀ {T : Tr} {lo hi a b : Int}, TOk S lo hi T → tie lo hi T a b → ¬ (a = lo ∧ b = hi) → ¬ (∀ z, S z → ¬ (a < z ∧ z < b)) →
    ∃ T' m p, TOk S lo hi T' ∧ a < m ∧ m < b ∧ tie lo hi T a m ∧ tie lo hi T m b ∧
      ((p < a ∧ tie lo hi T p a ∧ tie lo hi T p b ∧ ∀ x y, tie lo hi T' x y ↔ (tie lo hi T x y ∧ ¬ (x = a ∧ y = b)) ∨ (x = p ∧ y = m)) ∨
       (b < p ∧ tie lo hi T a p ∧ tie lo hi T b p ∧ ∀ x y, tie lo hi T' x y ↔ (tie lo hi T x y ∧ ¬ (x = a ∧ y = b)) ∨ (x = m ∧ y = p)))
  | .lf, lo, hi, a, b, h, t, n, _ => absurd t n
  | .nd m0 l r, lo, hi, a, b, ⟨sm, k1, k2⟩, t, n, na => by
    have q1 := k1.lt
    have q2 := k2.lt
    rcases t with t | t | t
    · exact absurd t n
    · have ti := tie_in k1 t
      by_cases e : a = lo ∧ b = m0
      · obtain ⟨e1, e2⟩ := e
        subst e1; subst e2
        match l, k1 with
        | .lf, k1 => exact absurd k1.2 na
        | .nd m1 l1 l2, ⟨sm1, j1, j2⟩ =>
          have r1 := j1.lt
          have r2 := j2.lt
          refine ⟨.nd m1 l1 (.nd b l2 r), m1, hi, ⟨sm1, j1, sm, j2, k2⟩, r1, r2, .inr (.inl (.inr (.inl tie_root))), .inr (.inl (.inr (.inr tie_root))), .inr ⟨q2, .inl ⟨rfl, rfl⟩, .inr (.inr tie_root), fun x y => ?_⟩⟩
          constructor
          · rintro (w | w | w | w | w)
            · exact .inl ⟨.inl w, by omega⟩
            · have := tie_in j1 w; exact .inl ⟨.inr (.inl (.inr (.inl w))), by omega⟩
            · exact .inr w
            · have := tie_in j2 w; exact .inl ⟨.inr (.inl (.inr (.inr w))), by omega⟩
            · have := tie_in k2 w; exact .inl ⟨.inr (.inr w), by omega⟩
          · rintro (⟨w | (w | w | w) | w, g⟩ | w)
            · exact .inl w
            · exact absurd w g
            · exact .inr (.inl w)
            · exact .inr (.inr (.inr (.inl w)))
            · exact .inr (.inr (.inr (.inr w)))
            · exact .inr (.inr (.inl w))
      · obtain ⟨T', m, p, hT', g1, g2, g3, g4, g5⟩ := flip k1 t e na
        refine ⟨.nd m0 T' r, m, p, ⟨sm, hT', k2⟩, g1, g2, .inr (.inl g3), .inr (.inl g4), ?_⟩
        rcases g5 with ⟨g5, g6, g7, g8⟩ | ⟨g5, g6, g7, g8⟩
        · refine .inl ⟨g5, .inr (.inl g6), .inr (.inl g7), fun x y => ?_⟩
          show (_ ∨ tie lo m0 T' x y ∨ _) ↔ _
          rw [g8 x y]
          constructor
          · rintro (w | (w | w) | w)
            · exact .inl ⟨.inl w, by omega⟩
            · exact .inl ⟨.inr (.inl w.1), w.2⟩
            · exact .inr w
            · have := tie_in k2 w; exact .inl ⟨.inr (.inr w), by omega⟩
          · rintro (⟨w | w | w, g⟩ | w)
            · exact .inl w
            · exact .inr (.inl (.inl ⟨w, g⟩))
            · exact .inr (.inr w)
            · exact .inr (.inl (.inr w))
        · refine .inr ⟨g5, .inr (.inl g6), .inr (.inl g7), fun x y => ?_⟩
          show (_ ∨ tie lo m0 T' x y ∨ _) ↔ _
          rw [g8 x y]
          constructor
          · rintro (w | (w | w) | w)
            · exact .inl ⟨.inl w, by omega⟩
            · exact .inl ⟨.inr (.inl w.1), w.2⟩
            · exact .inr w
            · have := tie_in k2 w; exact .inl ⟨.inr (.inr w), by omega⟩
          · rintro (⟨w | w | w, g⟩ | w)
            · exact .inl w
            · exact .inr (.inl (.inl ⟨w, g⟩))
            · exact .inr (.inr w)
            · exact .inr (.inl (.inr w))
    · have ti := tie_in k2 t
      by_cases e : a = m0 ∧ b = hi
      · obtain ⟨e1, e2⟩ := e
        subst e1; subst e2
        match r, k2 with
        | .lf, k2 => exact absurd k2.2 na
        | .nd m1 r1 r2, ⟨sm1, j1, j2⟩ =>
          have h1 := j1.lt
          have h2 := j2.lt
          refine ⟨.nd m1 (.nd a l r1) r2, m1, lo, ⟨sm1, ⟨sm, k1, j1⟩, j2⟩, h1, h2, .inr (.inr (.inr (.inl tie_root))), .inr (.inr (.inr (.inr tie_root))), .inl ⟨q1, .inr (.inl tie_root), .inl ⟨rfl, rfl⟩, fun x y => ?_⟩⟩
          constructor
          · rintro (w | (w | w | w) | w)
            · exact .inl ⟨.inl w, by omega⟩
            · exact .inr w
            · have := tie_in k1 w; exact .inl ⟨.inr (.inl w), by omega⟩
            · have := tie_in j1 w; exact .inl ⟨.inr (.inr (.inr (.inl w))), by omega⟩
            · have := tie_in j2 w; exact .inl ⟨.inr (.inr (.inr (.inr w))), by omega⟩
          · rintro (⟨w | w | (w | w | w), g⟩ | w)
            · exact .inl w
            · exact .inr (.inl (.inr (.inl w)))
            · exact absurd w g
            · exact .inr (.inl (.inr (.inr w)))
            · exact .inr (.inr w)
            · exact .inr (.inl (.inl w))
      · obtain ⟨T', m, p, hT', g1, g2, g3, g4, g5⟩ := flip k2 t e na
        refine ⟨.nd m0 l T', m, p, ⟨sm, k1, hT'⟩, g1, g2, .inr (.inr g3), .inr (.inr g4), ?_⟩
        rcases g5 with ⟨g5, g6, g7, g8⟩ | ⟨g5, g6, g7, g8⟩
        · refine .inl ⟨g5, .inr (.inr g6), .inr (.inr g7), fun x y => ?_⟩
          show (_ ∨ _ ∨ tie m0 hi T' x y) ↔ _
          rw [g8 x y]
          constructor
          · rintro (w | w | (w | w))
            · exact .inl ⟨.inl w, by omega⟩
            · have := tie_in k1 w; exact .inl ⟨.inr (.inl w), by omega⟩
            · exact .inl ⟨.inr (.inr w.1), w.2⟩
            · exact .inr w
          · rintro (⟨w | w | w, g⟩ | w)
            · exact .inl w
            · exact .inr (.inl w)
            · exact .inr (.inr (.inl ⟨w, g⟩))
            · exact .inr (.inr (.inr w))
        · refine .inr ⟨g5, .inr (.inr g6), .inr (.inr g7), fun x y => ?_⟩
          show (_ ∨ _ ∨ tie m0 hi T' x y) ↔ _
          rw [g8 x y]
          constructor
          · rintro (w | w | (w | w))
            · exact .inl ⟨.inl w, by omega⟩
            · have := tie_in k1 w; exact .inl ⟨.inr (.inl w), by omega⟩
            · exact .inl ⟨.inr (.inr w.1), w.2⟩
            · exact .inr w
          · rintro (⟨w | w | w, g⟩ | w)
            · exact .inl w
            · exact .inr (.inl w)
            · exact .inr (.inr (.inl ⟨w, g⟩))
            · exact .inr (.inr (.inr w))

/-! ### ears taken off, row by row -/
abbrev pr (a b : Int) : Int × Int := (min a b, max a b)
theorem sorted_lt {L : List Int} (h : L.Pairwise (· < ·)) {i j : Nat} {x y : Int} (hi : L[i]? = some x) (hj : L[j]? = some y) (hij : i < j) : x < y := by
  obtain ⟨h1, e1⟩ := List.getElem?_eq_some_iff.mp hi
  obtain ⟨h2, e2⟩ := List.getElem?_eq_some_iff.mp hj
  have := List.pairwise_iff_getElem.mp h i j h1 h2 hij
  rw [e1, e2] at this
  exact this
def CutL (L : List Int) (R : List (Int × Int)) : Prop := ∃ lo hi, L.head? = some lo ∧ L.getLast? = some hi ∧ Cut (· ∈ L) lo hi R
theorem sorted_split {A B : List Int} {v : Int} (h : (A ++ v :: B).Pairwise (· < ·)) : (∀ z ∈ A, z < v) ∧ (∀ z ∈ B, v < z) ∧ A.Pairwise (· < ·) ∧ B.Pairwise (· < ·) ∧ (∀ z ∈ A, ∀ y ∈ B, z < y) := by
  rw [List.pairwise_append, List.pairwise_cons] at h
  exact ⟨fun z hz => h.2.2 z hz v (List.mem_cons_self ..), h.2.1.1, h.1, h.2.1.2, fun z hz y hy => h.2.2 z hz y (List.mem_cons_of_mem _ hy)⟩
theorem mem_gap {A B : List Int} {v : Int} : ∀ z, z ∈ A ++ v :: B ↔ z ∈ A ++ B ∨ z = v := by
  intro z
  simp only [List.mem_append, List.mem_cons]
  constructor
  · rintro (h | h | h)
    · exact .inl (.inl h)
    · exact .inr h
    · exact .inl (.inr h)
  · rintro ((h | h) | h)
    · exact .inl h
    · exact .inr (.inr h)
    · exact .inr (.inl h)
theorem last_app {l m : List Int} (h : m ≠ []) : (l ++ m).getLast? = m.getLast? := by
  rw [List.getLast?_append]
  cases e : m.getLast? with
  | none => exact absurd (List.getLast?_eq_none_iff.mp e) h
  | some x => rfl
/-- the post at a place is left out: its neighbours get a rope -/
theorem ear_step {L : List Int} {k : Nat} {v p q : Int} {R : List (Int × Int)} (hL : L.Pairwise (· < ·)) (h4 : 4 ≤ L.length) (hv : L[k]? = some v)
    (hp : (if k = 0 then L.getLast? else L[k - 1]?) = some p) (hq : L[(k + 1) % L.length]? = some q) (h : CutL (L.take k ++ L.drop (k + 1)) R) : CutL L (pr p q :: R) := by
  obtain ⟨lo, hi, hlo, hhi, hc⟩ := h
  obtain ⟨hk, ev⟩ := List.getElem?_eq_some_iff.mp hv
  have eL : L = L.take k ++ v :: L.drop (k + 1) := by
    rw [← ev, ← List.drop_eq_getElem_cons hk, List.take_append_drop]
  have hs := hL
  rw [eL] at hs
  obtain ⟨s1, s2, s3, s4, s5⟩ := sorted_split hs
  have lA : (L.take k).length = k := by rw [List.length_take]; omega
  have lB : (L.drop (k + 1)).length = L.length - (k + 1) := List.length_drop
  have hpq := hp
  generalize eA : L.take k = A at *
  generalize eB : L.drop (k + 1) = B at *
  have sm : ∀ z, z ∈ L ↔ z ∈ A ++ B ∨ z = v := by rw [eL]; exact mem_gap
  have nv : ¬ v ∈ A ++ B := fun hm => by
    rcases List.mem_append.mp hm with hm | hm
    · exact absurd (s1 v hm) (Int.lt_irrefl _)
    · exact absurd (s2 v hm) (Int.lt_irrefl _)
  by_cases k0 : k = 0
  · -- the first
    subst k0
    have A0 : A = [] := List.length_eq_zero_iff.mp lA
    subst A0
    rw [List.nil_append] at *
    rw [Nat.mod_eq_of_lt (by omega)] at hq
    match B, lB with
    | [], lB => rw [List.length_nil] at lB; omega
    | [_], lB => rw [List.length_singleton] at lB; omega
    | [_, _], lB => simp only [List.length_cons, List.length_nil] at lB; omega
    | b0 :: b1 :: b2 :: B', lB =>
      rw [eL] at hq
      obtain rfl : b0 = q := by simpa using hq
      obtain rfl : b0 = lo := by simpa using hlo
      have e1 : L.getLast? = some hi := by
        rw [eL, List.getLast?_cons_cons]
        exact hhi
      rw [if_pos rfl, e1] at hp
      obtain rfl := Option.some.inj hp
      have hlt : b0 < b1 := (List.pairwise_cons.mp s4).1 b1 (by simp)
      have hb1 : b1 < hi := by
        rw [List.getLast?_cons_cons, List.getLast?_cons_cons] at hhi
        have hm : hi ∈ b2 :: B' := List.mem_of_getLast? hhi
        exact (List.pairwise_cons.mp (List.pairwise_cons.mp s4).2).1 hi hm
      have epr : pr hi b0 = (b0, hi) := by
        show (min hi b0, max hi b0) = _
        rw [Int.min_eq_right (by omega), Int.max_eq_left (by omega)]
      rw [epr]
      refine ⟨v, hi, by rw [eL]; rfl, e1, ear_first hc sm (s2 b0 (by simp)) (x := b1) (by simp) ⟨hlt, hb1⟩⟩
  · rw [if_neg k0] at hp
    have hkA : A ≠ [] := fun e => by rw [e] at lA; exact k0 lA.symm
    obtain ⟨A', a, eA'⟩ : ∃ A' a, A = A' ++ [a] := ⟨A.dropLast, A.getLast hkA, (List.dropLast_concat_getLast hkA).symm⟩
    subst eA'
    rw [List.length_append, List.length_singleton] at lA
    have epa : a = p := by
      rw [eL, List.append_assoc] at hp
      rw [List.getElem?_append_right (by omega)] at hp
      rw [show k - 1 - A'.length = 0 by omega] at hp
      exact Option.some.inj hp
    subst epa
    have hav : a < v := s1 a (by simp)
    match B, lB with
    | [], lB =>
      -- the last
      rw [List.length_nil] at lB
      have hkl : k + 1 = L.length := by omega
      rw [hkl, Nat.mod_self] at hq
      match A', lA with
      | [], lA => rw [List.length_nil] at lA; omega
      | a0 :: A'', lA =>
        rw [eL] at hq
        obtain rfl : a0 = q := by simpa using hq
        obtain rfl : a0 = lo := by simpa using hlo
        obtain rfl : a = hi := by
          rw [List.append_nil, List.getLast?_concat] at hhi
          exact Option.some.inj hhi
        match A'', lA with
        | [], lA => rw [List.length_singleton] at lA; omega
        | a1 :: A3, lA =>
          have h1 : a0 < a1 := (List.pairwise_cons.mp s3).1 a1 (by simp)
          have h2 : a1 < a := by
            have := (List.pairwise_cons.mp (List.pairwise_cons.mp s3).2).1 a (by simp)
            exact this
          have epr : pr a a0 = (a0, a) := by
            show (min a a0, max a a0) = _
            rw [Int.min_eq_right (by omega), Int.max_eq_left (by omega)]
          rw [epr]
          refine ⟨a0, v, by rw [eL]; rfl, by rw [eL, List.getLast?_concat], ear_last hc sm hav (x := a1) (by simp) ⟨h1, h2⟩⟩
    | b0 :: B', lB =>
      rw [List.length_cons] at lB
      rw [Nat.mod_eq_of_lt (by omega)] at hq
      have ebq : b0 = q := by
        rw [eL] at hq
        rw [List.getElem?_append_right (by rw [List.length_append, List.length_singleton]; omega), List.length_append, List.length_singleton] at hq
        rw [show k + 1 - (A'.length + 1) = 1 by omega] at hq
        exact Option.some.inj hq
      subst ebq
      have hvb : v < b0 := s2 b0 (by simp)
      have epr : pr a b0 = (a, b0) := by
        show (min a b0, max a b0) = _
        rw [Int.min_eq_left (by omega), Int.max_eq_right (by omega)]
      rw [epr]
      refine ⟨lo, hi, ?_, ?_, ear_mid hc sm nv (by simp) (by simp) hav hvb (fun z hz => ?_) ?_⟩
      · rw [eL]
        cases A' with
        | nil => simpa using hlo
        | cons x A' => simpa using hlo
      · rw [eL]
        rw [last_app (by simp)] at hhi ⊢
        rw [List.getLast?_cons_cons]
        exact hhi
      · rcases List.mem_append.mp hz with hz | hz
        · rcases List.mem_append.mp hz with hz | hz
          · have := (List.pairwise_append.mp s3).2.2 z hz a (by simp); omega
          · have := List.mem_singleton.mp hz; omega
        · rcases List.mem_cons.mp hz with hz | hz
          · omega
          · have := (List.pairwise_cons.mp s4).1 z hz; omega
      · rintro ⟨e1, e2⟩
        subst e1; subst e2
        have z1 : A' = [] := by
          cases A' with
          | nil => rfl
          | cons x A' =>
            obtain rfl : x = a := by simpa using hlo
            exact absurd ((List.pairwise_cons.mp s3).1 x (by simp)) (Int.lt_irrefl _)
        have z2 : B' = [] := by
          cases B' with
          | nil => rfl
          | cons x B' =>
            rw [last_app (by simp), List.getLast?_cons_cons] at hhi
            have hm : b0 ∈ x :: B' := List.mem_of_getLast? hhi
            exact absurd ((List.pairwise_cons.mp s4).1 b0 hm) (Int.lt_irrefl _)
        subst z1; subst z2
        simp only [List.length_nil] at lA lB
        omega
theorem cut3 {a b c : Int} (h1 : a < b) (h2 : b < c) : CutL [a, b, c] [] := by
  refine ⟨a, c, rfl, rfl, by simp, by simp, fun z hz => ?_, List.nodup_nil, .nd b .lf .lf, ⟨by simp, ⟨h1, fun z hz hh => ?_⟩, h2, fun z hz hh => ?_⟩, fun x y => ?_⟩
  · simp only [List.mem_cons, List.not_mem_nil, or_false] at hz
    omega
  · simp only [List.mem_cons, List.not_mem_nil, or_false] at hz
    omega
  · simp only [List.mem_cons, List.not_mem_nil, or_false] at hz
    omega
  · constructor
    · intro h; cases h
    · rintro ⟨w | w | w, n⟩
      · exact absurd (.inr w) n
      · obtain ⟨e1, e2⟩ := w
        refine absurd (.inl fun z hz hh => ?_) n
        simp only [List.mem_cons, List.not_mem_nil, or_false] at hz
        omega
      · obtain ⟨e1, e2⟩ := w
        refine absurd (.inl fun z hz hh => ?_) n
        simp only [List.mem_cons, List.not_mem_nil, or_false] at hz
        omega

/-! ### cuttings of n posts -/
def inR (n : Int) : Int → Prop := fun z => 0 ≤ z ∧ z < n
def rng (n : Int) : List Int := (List.range n.toNat).map (fun k : Nat => (k : Int))
def sidesL (n : Int) : List (Int × Int) := (rng (n - 1)).map (fun k => (k, k + 1)) ++ [(0, n - 1)]
theorem mem_rng {n z : Int} : z ∈ rng n ↔ 0 ≤ z ∧ z < n := by
  unfold rng
  rw [List.mem_map]
  constructor
  · rintro ⟨k, hk, rfl⟩
    have := List.mem_range.mp hk
    omega
  · rintro ⟨h1, h2⟩
    exact ⟨z.toNat, List.mem_range.mpr (by omega), by omega⟩
theorem rng_sorted (n : Int) : (rng n).Pairwise (· < ·) := by
  unfold rng
  rw [List.pairwise_map]
  exact (List.pairwise_lt_range).imp fun h => by omega
theorem rng_len (n : Int) : (rng n).length = n.toNat := by
  unfold rng; rw [List.length_map, List.length_range]
structure IsCut (n : Int) (R : List (Int × Int)) : Prop where
  three : 3 ≤ n
  nd : R.Nodup
  ex : ∃ T, TOk (inR n) 0 (n - 1) T ∧ ∀ a b, (a, b) ∈ R ↔ tie 0 (n - 1) T a b ∧ a + 2 ≤ b ∧ ¬ (a = 0 ∧ b = n - 1)
theorem isCut_of {n : Int} {R : List (Int × Int)} (h3 : 3 ≤ n) (h : CutL (rng n) R) : IsCut n R := by
  obtain ⟨lo, hi, hlo, hhi, hc⟩ := h
  have m1 := mem_rng.mp hc.slo
  have m2 := mem_rng.mp hc.shi
  have z1 := hc.bd 0 (mem_rng.mpr (by omega))
  have z2 := hc.bd (n - 1) (mem_rng.mpr (by omega))
  have e1 : lo = 0 := by omega
  have e2 : hi = n - 1 := by omega
  subst e1; subst e2
  obtain ⟨T, hT, hR⟩ := hc.ex
  have hT' : TOk (inR n) 0 (n - 1) T := hT.more (fun z hz => mem_rng.mp hz) fun z hz _ _ => mem_rng.mpr hz
  refine ⟨h3, hc.nd, T, hT', fun a b => (hR a b).trans ⟨?_, ?_⟩⟩
  · rintro ⟨t, n1⟩
    have ti := tie_in hT t
    refine ⟨t, ?_, fun e => n1 (.inr e)⟩
    rcases Int.lt_or_le (a + 1) b with h | h
    · omega
    · exact absurd (.inl fun z _ hh => by omega) n1
  · rintro ⟨t, g1, g2⟩
    have ti := tie_in hT t
    refine ⟨t, ?_⟩
    rintro (w | w)
    · exact w (a + 1) (mem_rng.mpr (by omega)) (by omega)
    · exact g2 w
theorem ties_iff {n : Int} {R : List (Int × Int)} {T : Tr} (h3 : 3 ≤ n) (hT : TOk (inR n) 0 (n - 1) T) (hR : ∀ a b, (a, b) ∈ R ↔ tie 0 (n - 1) T a b ∧ a + 2 ≤ b ∧ ¬ (a = 0 ∧ b = n - 1)) :
    ∀ a b, (a, b) ∈ sidesL n ++ R ↔ tie 0 (n - 1) T a b := by
  intro a b
  unfold sidesL
  rw [List.mem_append, List.mem_append, List.mem_singleton, List.mem_map, hR a b]
  constructor
  · rintro ((⟨k, hk, e⟩ | e) | h)
    · obtain ⟨rfl, rfl⟩ := Prod.mk.inj e
      have := mem_rng.mp hk
      exact tie_adj hT ⟨by omega, by omega⟩ ⟨by omega, by omega⟩ ⟨by omega, by omega⟩ ⟨by omega, by omega⟩ (by omega) (fun z _ hh => by omega) (by omega) (by omega)
    · obtain ⟨rfl, rfl⟩ := Prod.mk.inj e
      exact tie_root
    · exact h.1
  · intro t
    have ti := tie_in hT t
    by_cases h1 : a + 2 ≤ b
    · by_cases h2 : a = 0 ∧ b = n - 1
      · exact .inl (.inr (by rw [h2.1, h2.2]))
      · exact .inr ⟨t, h1, h2⟩
    · exact .inl (.inl ⟨a, mem_rng.mpr (by omega), by rw [show b = a + 1 by omega]⟩)
/-- x makes a plot with a and b -/
def Bes (lo hi : Int) (T : Tr) (a b x : Int) : Prop := (a < x ∧ x < b ∧ tie lo hi T a x ∧ tie lo hi T x b) ∨ (x < a ∧ tie lo hi T x a ∧ tie lo hi T x b) ∨ (b < x ∧ tie lo hi T a x ∧ tie lo hi T b x)
theorem bes_iff {S : Int → Prop} {lo hi a b x : Int} {T : Tr} (hT : TOk S lo hi T) (hab : a < b) : Bes lo hi T a b x ↔ tie lo hi T (min a x) (max a x) ∧ tie lo hi T (min b x) (max b x) := by
  constructor
  · rintro (⟨h1, h2, h3, h4⟩ | ⟨h1, h2, h3⟩ | ⟨h1, h2, h3⟩)
    · rw [Int.min_eq_left (by omega), Int.max_eq_right (by omega), Int.min_eq_right (by omega), Int.max_eq_left (by omega)]
      exact ⟨h3, h4⟩
    · rw [Int.min_eq_right (by omega), Int.max_eq_left (by omega), Int.min_eq_right (by omega), Int.max_eq_left (by omega)]
      exact ⟨h2, h3⟩
    · rw [Int.min_eq_left (by omega), Int.max_eq_right (by omega), Int.min_eq_left (by omega), Int.max_eq_right (by omega)]
      exact ⟨h2, h3⟩
  · rintro ⟨t, u⟩
    have t1 := tie_in hT t
    have u1 := tie_in hT u
    rcases Int.lt_trichotomy x a with h | h | h
    · rw [Int.min_eq_right (by omega), Int.max_eq_left (by omega)] at t u
      exact .inr (.inl ⟨h, t, u⟩)
    · omega
    · rcases Int.lt_trichotomy x b with g | g | g
      · rw [Int.min_eq_left (by omega), Int.max_eq_right (by omega)] at t
        rw [Int.min_eq_right (by omega), Int.max_eq_left (by omega)] at u
        exact .inl ⟨h, g, t, u⟩
      · omega
      · rw [Int.min_eq_left (by omega), Int.max_eq_right (by omega)] at t u
        exact .inr (.inr ⟨g, t, u⟩)
theorem bes_in {S : Int → Prop} {lo hi a b x y : Int} {T : Tr} (hT : TOk S lo hi T) (hab : a < b) (hx : Bes lo hi T a b x) (hy : Bes lo hi T a b y) (h1 : a < x) (h2 : x < b) (h3 : a < y) (h4 : y < b) : x = y := by
  rcases hx with ⟨_, _, x1, x2⟩ | ⟨_, x1, x2⟩ | ⟨_, x1, x2⟩ <;> rcases hy with ⟨_, _, y1, y2⟩ | ⟨_, y1, y2⟩ | ⟨_, y1, y2⟩ <;> first | omega | skip
  rcases Int.lt_trichotomy x y with h | h | h
  · exact (nocross hT y1 x2 h1 h h4).elim
  · exact h
  · exact (nocross hT x1 y2 h3 h h2).elim
theorem bes_out {S : Int → Prop} {lo hi a b x y : Int} {T : Tr} (hT : TOk S lo hi T) (hab : a < b) (hx : Bes lo hi T a b x) (hy : Bes lo hi T a b y) (h1 : ¬ (a < x ∧ x < b)) (h2 : ¬ (a < y ∧ y < b)) : x = y := by
  rcases hx with ⟨x0, x00, _, _⟩ | ⟨x0, x1, x2⟩ | ⟨x0, x1, x2⟩
  · exact absurd ⟨x0, x00⟩ h1
  · rcases hy with ⟨y0, y00, _, _⟩ | ⟨y0, y1, y2⟩ | ⟨y0, y1, y2⟩
    · exact absurd ⟨y0, y00⟩ h2
    · rcases Int.lt_trichotomy x y with h | h | h
      · exact (nocross hT x1 y2 h y0 hab).elim
      · exact h
      · exact (nocross hT y1 x2 h x0 hab).elim
    · exact (nocross hT x2 y1 x0 hab y0).elim
  · rcases hy with ⟨y0, y00, _, _⟩ | ⟨y0, y1, y2⟩ | ⟨y0, y1, y2⟩
    · exact absurd ⟨y0, y00⟩ h2
    · exact (nocross hT y2 x1 y0 hab x0).elim
    · rcases Int.lt_trichotomy x y with h | h | h
      · exact (nocross hT x1 y2 hab x0 h).elim
      · exact h
      · exact (nocross hT y1 x2 hab y0 h).elim
theorem sorted_ext {l m : List Int} (h1 : l.Pairwise (· < ·)) (h2 : m.Pairwise (· < ·)) (h : ∀ x, x ∈ l ↔ x ∈ m) : l = m := by
  have n1 : l.Nodup := h1.imp fun h => Int.ne_of_lt h
  have n2 : m.Nodup := h2.imp fun h => Int.ne_of_lt h
  exact List.Perm.eq_of_pairwise (le := (· < ·)) (fun a b _ _ x y => absurd (Int.lt_trans x y) (Int.lt_irrefl _)) h1 h2 ((List.perm_ext_iff_of_nodup n1 n2).mpr h)
def besL (t : List (Int × Int)) (n a b : Int) : List Int := (rng n).filter fun p => decide (pr a p ∈ t) && decide (pr b p ∈ t)
theorem besL_comm (t : List (Int × Int)) (n a b : Int) : besL t n a b = besL t n b a := by
  unfold besL
  refine List.filter_congr fun x _ => ?_
  rw [Bool.and_comm]
theorem besL_pr (t : List (Int × Int)) (n a b : Int) : besL t n a b = besL t n (pr a b).1 (pr a b).2 := by
  show _ = besL t n (min a b) (max a b)
  rcases Int.le_total a b with h | h
  · rw [Int.min_eq_left h, Int.max_eq_right h]
  · rw [Int.min_eq_right h, Int.max_eq_left h, besL_comm]
theorem besL_mem {n : Int} {t : List (Int × Int)} {T : Tr} (hT : TOk (inR n) 0 (n - 1) T) (ht : ∀ a b, (a, b) ∈ t ↔ tie 0 (n - 1) T a b) {a b : Int} (hab : a < b) : ∀ x, x ∈ besL t n a b ↔ Bes 0 (n - 1) T a b x := by
  intro x
  rw [bes_iff hT hab]
  unfold besL
  rw [List.mem_filter, Bool.and_eq_true, decide_eq_true_eq, decide_eq_true_eq, ht, ht, mem_rng]
  constructor
  · exact fun h => h.2
  · intro h
    have := tie_in hT h.1
    have := tie_in hT h.2
    refine ⟨?_, h⟩
    omega
theorem besL_sorted (t : List (Int × Int)) (n a b : Int) : (besL t n a b).Pairwise (· < ·) := (rng_sorted n).filter _
/-- beside a side stands one post, beside a rope two -/
theorem beside_side {n : Int} {t : List (Int × Int)} {T : Tr} (h3 : 3 ≤ n) (hT : TOk (inR n) 0 (n - 1) T) (ht : ∀ a b, (a, b) ∈ t ↔ tie 0 (n - 1) T a b) {a b : Int} (h : tie 0 (n - 1) T a b) (hs : ¬ (a + 2 ≤ b ∧ ¬ (a = 0 ∧ b = n - 1))) :
    ∃ m, besL t n a b = [m] := by
  have ti := tie_in hT h
  have hm := besL_mem hT ht ti.2.1
  by_cases h1 : a + 2 ≤ b
  · have h2 : a = 0 ∧ b = n - 1 := Decidable.by_contra fun q => hs ⟨h1, q⟩
    rcases inner hT h with q | ⟨m, q1, q2, q3, q4⟩
    · exact absurd (q (a + 1) ⟨by omega, by omega⟩) (by omega)
    · have hb : Bes 0 (n - 1) T a b m := .inl ⟨q1, q2, q3, q4⟩
      refine ⟨m, sorted_ext (besL_sorted ..) (List.pairwise_singleton ..) fun x => ?_⟩
      rw [hm, List.mem_singleton]
      constructor
      · intro g
        have : a < x ∧ x < b := by
          rcases g with ⟨g1, g2, _, _⟩ | ⟨g1, g2, g3⟩ | ⟨g1, g2, g3⟩
          · exact ⟨g1, g2⟩
          · have := tie_in hT g2; omega
          · have := tie_in hT g2; omega
        exact bes_in hT ti.2.1 g hb this.1 this.2 q1 q2
      · rintro rfl
        exact hb
  · obtain ⟨p, hp⟩ := outer hT h (by omega)
    have hb : Bes 0 (n - 1) T a b p := by
      rcases hp with hp | hp
      · exact .inr (.inl hp)
      · exact .inr (.inr hp)
    refine ⟨p, sorted_ext (besL_sorted ..) (List.pairwise_singleton ..) fun x => ?_⟩
    rw [hm, List.mem_singleton]
    constructor
    · intro g
      exact bes_out hT ti.2.1 g hb (by omega) (by omega)
    · rintro rfl
      exact hb
theorem beside_rope {n : Int} {t : List (Int × Int)} {T : Tr} (hT : TOk (inR n) 0 (n - 1) T) (ht : ∀ a b, (a, b) ∈ t ↔ tie 0 (n - 1) T a b) {a b : Int} (h : tie 0 (n - 1) T a b) (h1 : a + 2 ≤ b) (h2 : ¬ (a = 0 ∧ b = n - 1)) :
    ∃ m p T', a < m ∧ m < b ∧ TOk (inR n) 0 (n - 1) T' ∧ ((p < a ∧ 0 ≤ p ∧ besL t n a b = [p, m] ∧ ∀ x y, tie 0 (n - 1) T' x y ↔ (tie 0 (n - 1) T x y ∧ ¬ (x = a ∧ y = b)) ∨ (x = p ∧ y = m)) ∨
      (b < p ∧ p < n ∧ besL t n a b = [m, p] ∧ ∀ x y, tie 0 (n - 1) T' x y ↔ (tie 0 (n - 1) T x y ∧ ¬ (x = a ∧ y = b)) ∨ (x = m ∧ y = p))) := by
  have ti := tie_in hT h
  have hm := besL_mem hT ht ti.2.1
  obtain ⟨T', m, p, hT', g1, g2, g3, g4, g5⟩ := flip hT h h2 (fun q => q (a + 1) ⟨by omega, by omega⟩ (by omega))
  refine ⟨m, p, T', g1, g2, hT', ?_⟩
  have bm : Bes 0 (n - 1) T a b m := .inl ⟨g1, g2, g3, g4⟩
  rcases g5 with ⟨q1, q2, q3, q4⟩ | ⟨q1, q2, q3, q4⟩
  · have bp : Bes 0 (n - 1) T a b p := .inr (.inl ⟨q1, q2, q3⟩)
    refine .inl ⟨q1, (tie_in hT q2).1, sorted_ext (besL_sorted ..) (by simp; omega) fun x => ?_, q4⟩
    rw [hm]
    simp only [List.mem_cons, List.not_mem_nil, or_false]
    constructor
    · intro g
      by_cases hx : a < x ∧ x < b
      · exact .inr (bes_in hT ti.2.1 g bm hx.1 hx.2 g1 g2)
      · exact .inl (bes_out hT ti.2.1 g bp hx (by omega))
    · rintro (rfl | rfl)
      · exact bp
      · exact bm
  · have bp : Bes 0 (n - 1) T a b p := .inr (.inr ⟨q1, q2, q3⟩)
    have tq := tie_in hT q2
    refine .inr ⟨q1, by omega, sorted_ext (besL_sorted ..) (by simp; omega) fun x => ?_, q4⟩
    rw [hm]
    simp only [List.mem_cons, List.not_mem_nil, or_false]
    constructor
    · intro g
      by_cases hx : a < x ∧ x < b
      · exact .inl (bes_in hT ti.2.1 g bm hx.1 hx.2 g1 g2)
      · exact .inr (bes_out hT ti.2.1 g bp hx (by omega))
    · rintro (rfl | rfl)
      · exact bm
      · exact bp
theorem beside_cnt {n : Int} {R t : List (Int × Int)} (hc : IsCut n R) (ht : ∀ p, p ∈ t ↔ p ∈ sidesL n ++ R) {a b : Int} (h : pr a b ∈ t) : (besL t n a b).length = 1 + (if pr a b ∈ R then 1 else 0) := by
  obtain ⟨T, hT, hR⟩ := hc.ex
  have ht' : ∀ a b, (a, b) ∈ t ↔ tie 0 (n - 1) T a b := fun a b => (ht _).trans (ties_iff hc.three hT hR a b)
  rw [besL_pr]
  generalize e : pr a b = q at *
  obtain ⟨a', b'⟩ := q
  have h' := (ht' a' b').mp h
  show (besL t n a' b').length = _
  by_cases hr : a' + 2 ≤ b' ∧ ¬ (a' = 0 ∧ b' = n - 1)
  · rw [if_pos ((hR a' b').mpr ⟨h', hr⟩)]
    obtain ⟨m, p, T', _, _, _, g | g⟩ := beside_rope hT ht' h' hr.1 hr.2
    · rw [g.2.2.1]; rfl
    · rw [g.2.2.1]; rfl
  · rw [if_neg (fun q => hr ((hR a' b').mp q).2)]
    obtain ⟨m, e⟩ := beside_side hc.three hT ht' h' hr
    rw [e]; rfl
/-- turning a rope makes a cutting -/
theorem turn_cut {n : Int} {R t : List (Int × Int)} (hc : IsCut n R) (ht : ∀ p, p ∈ t ↔ p ∈ sidesL n ++ R) {a b : Int} (h : (a, b) ∈ R) :
    ∃ x y, besL t n a b = [x, y] ∧ 0 ≤ x ∧ x < y ∧ y < n ∧ (x, y) ∉ R ∧ ((x < a ∧ a < y ∧ y < b) ∨ (a < x ∧ x < b ∧ b < y)) ∧ ∀ R' : List (Int × Int), R'.Nodup → (∀ p, p ∈ R' ↔ (p ∈ R ∧ p ≠ (a, b)) ∨ p = (x, y)) → IsCut n R' := by
  obtain ⟨T, hT, hR⟩ := hc.ex
  have ht' : ∀ a b, (a, b) ∈ t ↔ tie 0 (n - 1) T a b := fun a b => (ht _).trans (ties_iff hc.three hT hR a b)
  obtain ⟨h1, h2, h3⟩ := (hR a b).mp h
  have ti := tie_in hT h1
  obtain ⟨m, p, T', g1, g2, hT', g | g⟩ := beside_rope hT ht' h1 h2 h3
  · obtain ⟨q1, q2, q3, q4⟩ := g
    refine ⟨p, m, q3, q2, by omega, by omega, fun hm => ?_, .inl ⟨q1, g1, g2⟩, fun R' hn hR' => ⟨hc.three, hn, T', hT', fun x y => ?_⟩⟩
    · exact nocross hT ((hR p m).mp hm).1 h1 q1 g1 g2
    · rw [hR', hR, q4]
      constructor
      · rintro (⟨⟨w1, w2⟩, w3⟩ | w)
        · exact ⟨.inl ⟨w1, fun e => w3 (by rw [e.1, e.2])⟩, w2⟩
        · obtain ⟨rfl, rfl⟩ := Prod.mk.inj w
          exact ⟨.inr ⟨rfl, rfl⟩, by omega, by omega⟩
      · rintro ⟨⟨w1, w2⟩ | ⟨e1, e2⟩, w3⟩
        · exact .inl ⟨⟨w1, w3⟩, fun e => w2 (Prod.mk.inj e)⟩
        · exact .inr (by rw [e1, e2])
  · obtain ⟨q1, q2, q3, q4⟩ := g
    refine ⟨m, p, q3, by omega, by omega, q2, fun hm => ?_, .inr ⟨g1, g2, q1⟩, fun R' hn hR' => ⟨hc.three, hn, T', hT', fun x y => ?_⟩⟩
    · exact nocross hT h1 ((hR m p).mp hm).1 g1 g2 q1
    · rw [hR', hR, q4]
      constructor
      · rintro (⟨⟨w1, w2⟩, w3⟩ | w)
        · exact ⟨.inl ⟨w1, fun e => w3 (by rw [e.1, e.2])⟩, w2⟩
        · obtain ⟨rfl, rfl⟩ := Prod.mk.inj w
          exact ⟨.inr ⟨rfl, rfl⟩, by omega, by omega⟩
      · rintro ⟨⟨w1, w2⟩ | ⟨e1, e2⟩, w3⟩
        · exact .inl ⟨⟨w1, w3⟩, fun e => w2 (Prod.mk.inj e)⟩
        · exact .inr (by rw [e1, e2])

/-! ### fans: the mathematics -/
theorem bes_l {S : Int → Prop} {lo hi m a b x : Int} {l r : Tr} (h : Bes lo m l a b x) : Bes lo hi (.nd m l r) a b x := by
  rcases h with ⟨h1, h2, h3, h4⟩ | ⟨h1, h2, h3⟩ | ⟨h1, h2, h3⟩
  · exact .inl ⟨h1, h2, .inr (.inl h3), .inr (.inl h4)⟩
  · exact .inr (.inl ⟨h1, .inr (.inl h2), .inr (.inl h3)⟩)
  · exact .inr (.inr ⟨h1, .inr (.inl h2), .inr (.inl h3)⟩)
theorem bes_r {S : Int → Prop} {lo hi m a b x : Int} {l r : Tr} (h : Bes m hi r a b x) : Bes lo hi (.nd m l r) a b x := by
  rcases h with ⟨h1, h2, h3, h4⟩ | ⟨h1, h2, h3⟩ | ⟨h1, h2, h3⟩
  · exact .inl ⟨h1, h2, .inr (.inr h3), .inr (.inr h4)⟩
  · exact .inr (.inl ⟨h1, .inr (.inr h2), .inr (.inr h3)⟩)
  · exact .inr (.inr ⟨h1, .inr (.inr h2), .inr (.inr h3)⟩)
def Adj (S : Int → Prop) (a b : Int) : Prop := ∀ z, S z → ¬ (a < z ∧ z < b)
theorem fan_in {S : Int → Prop} {v : Int} (sv : S v) : ∀ {T : Tr} {lo hi : Int}, TOk S lo hi T → lo < v → v < hi → (∀ a b, tie lo hi T a b → ¬ Adj S a b → ¬ Bes lo hi T a b v) → False
  | .lf, lo, hi, h, h1, h2, nf => h.2 v sv ⟨h1, h2⟩
  | .nd m l r, lo, hi, ⟨sm, k1, k2⟩, h1, h2, nf => by
    rcases Int.lt_trichotomy v m with h | h | h
    · exact fan_in sv k1 h1 h fun a b t na bs => nf a b (.inr (.inl t)) na (bes_l (S := S) bs)
    · subst h
      exact nf lo hi (.inl ⟨rfl, rfl⟩) (fun q => q v sv ⟨h1, h2⟩) (.inl ⟨h1, h2, .inr (.inl tie_root), .inr (.inr tie_root)⟩)
    · exact fan_in sv k2 h h2 fun a b t na bs => nf a b (.inr (.inr t)) na (bes_r (S := S) bs)
theorem fan_lo {S : Int → Prop} : ∀ {T : Tr} {lo hi : Int}, TOk S lo hi T → (∀ a b, tie lo hi T a b → ¬ Adj S a b → ¬ Bes lo hi T a b lo) → ∀ a b, tie lo hi T a b → Adj S a b ∨ a = lo
  | .lf, lo, hi, h, nf, a, b, t => .inr t.1
  | .nd m l r, lo, hi, ⟨sm, k1, k2⟩, nf, a, b, t => by
    rcases t with t | t | t
    · exact .inr t.1
    · exact fan_lo k1 (fun a b t na bs => nf a b (.inr (.inl t)) na (bes_l (S := S) bs)) a b t
    · have hm : Adj S m hi := Classical.byContradiction fun na => nf m hi (.inr (.inr tie_root)) na (.inr (.inl ⟨k1.lt, .inr (.inl tie_root), .inl ⟨rfl, rfl⟩⟩))
      left
      have ti := tie_in k2 t
      intro z hz hh
      exact hm z hz ⟨by omega, by omega⟩
theorem fan_hi {S : Int → Prop} : ∀ {T : Tr} {lo hi : Int}, TOk S lo hi T → (∀ a b, tie lo hi T a b → ¬ Adj S a b → ¬ Bes lo hi T a b hi) → ∀ a b, tie lo hi T a b → Adj S a b ∨ b = hi
  | .lf, lo, hi, h, nf, a, b, t => .inr t.2
  | .nd m l r, lo, hi, ⟨sm, k1, k2⟩, nf, a, b, t => by
    rcases t with t | t | t
    · exact .inr t.2
    · have hm : Adj S lo m := Classical.byContradiction fun na => nf lo m (.inr (.inl tie_root)) na (.inr (.inr ⟨k2.lt, .inl ⟨rfl, rfl⟩, .inr (.inr tie_root)⟩))
      left
      have ti := tie_in k1 t
      intro z hz hh
      exact hm z hz ⟨by omega, by omega⟩
    · exact fan_hi k2 (fun a b t na bs => nf a b (.inr (.inr t)) na (bes_r (S := S) bs)) a b t
/-- where no rope faces v, all are at v -/
theorem fan_all {S : Int → Prop} {v : Int} (sv : S v) {T : Tr} {lo hi : Int} (hT : TOk S lo hi T) (h1 : lo ≤ v) (h2 : v ≤ hi) (nf : ∀ a b, tie lo hi T a b → ¬ (a = lo ∧ b = hi) → ¬ Adj S a b → ¬ Bes lo hi T a b v) :
    ∀ a b, tie lo hi T a b → ¬ (a = lo ∧ b = hi) → ¬ Adj S a b → a = v ∨ b = v := by
  intro a b t n na
  match T, hT with
  | .lf, hT => exact absurd t n
  | .nd m l r, ⟨sm, k1, k2⟩ =>
    have q1 := k1.lt
    have q2 := k2.lt
    have nl : ∀ a b, tie lo m l a b → ¬ Adj S a b → ¬ Bes lo m l a b v := fun a b t na bs => by
      have := tie_in k1 t
      exact nf a b (.inr (.inl t)) (by omega) na (bes_l (S := S) bs)
    have nr : ∀ a b, tie m hi r a b → ¬ Adj S a b → ¬ Bes m hi r a b v := fun a b t na bs => by
      have := tie_in k2 t
      exact nf a b (.inr (.inr t)) (by omega) na (bes_r (S := S) bs)
    rcases Int.lt_trichotomy v m with h | h | h
    · by_cases e : v = lo
      · subst e
        rcases t with t | t | t
        · exact absurd t n
        · exact .inl ((fan_lo k1 nl a b t).resolve_left na)
        · have hm : Adj S m hi := Classical.byContradiction fun na => nf m hi (.inr (.inr tie_root)) (by omega) na (.inr (.inl ⟨q1, .inr (.inl tie_root), .inl ⟨rfl, rfl⟩⟩))
          have ti := tie_in k2 t
          exact absurd (fun z hz hh => hm z hz ⟨by omega, by omega⟩) na
      · exact (fan_in sv k1 (by omega) h nl).elim
    · subst h
      rcases t with t | t | t
      · exact absurd t n
      · exact .inr ((fan_hi k1 nl a b t).resolve_left na)
      · exact .inl ((fan_lo k2 nr a b t).resolve_left na)
    · by_cases e : v = hi
      · subst e
        rcases t with t | t | t
        · exact absurd t n
        · have hm : Adj S lo m := Classical.byContradiction fun na => nf lo m (.inr (.inl tie_root)) (by omega) na (.inr (.inr ⟨q2, .inl ⟨rfl, rfl⟩, .inr (.inr tie_root)⟩))
          have ti := tie_in k1 t
          exact absurd (fun z hz hh => hm z hz ⟨by omega, by omega⟩) na
        · exact .inr ((fan_hi k2 nr a b t).resolve_left na)
      · exact (fan_in sv k2 h (by omega) nr).elim

theorem cut_ints (rs : List Int) (lo : Int) (h0 : 0 ≤ lo) : ∃ rs' : List Int, cutV (rs.map V.int) (some lo) none = rs'.map V.int ∧ rs'.length = rs.length - lo.toNat := by
  refine ⟨(rs.drop lo.toNat), ?_, List.length_drop⟩
  unfold cutV
  rw [HT.sIx_none]
  have e : HT.sIx (rs.map V.int).length 0 (some lo) = min lo.toNat (rs.map V.int).length := by
    show (if lo < 0 then _ else _) = _
    rw [if_neg (by omega)]
  rw [e, List.length_map]
  have h2 : (rs.map V.int).drop (min lo.toNat rs.length) = (rs.drop lo.toNat).map V.int := by
    rw [List.map_drop]
    rcases Nat.le_total lo.toNat rs.length with h | h
    · rw [Nat.min_eq_left h]
    · rw [Nat.min_eq_right h, List.drop_of_length_le (by rw [List.length_map]; exact Nat.le_refl _), List.drop_of_length_le (by rw [List.length_map]; exact h)]
  rw [h2, List.take_of_length_le]
  rw [List.length_map, List.length_drop]
  omega
theorem int_at {rs : List Int} {k : Nat} (h : k < rs.length) : ∃ v : Int, v ∈ rs ∧ atI (rs.map V.int) (k : Int) = some (.int v) := by
  refine ⟨rs[k], List.getElem_mem h, atI_nat ?_⟩
  rw [List.getElem?_map, List.getElem?_eq_getElem h]
  rfl

theorem cut_take (xs : List V) (k : Nat) : cutV xs none (some (k : Int)) = xs.take k := by
  unfold cutV
  rw [HT.sIx_none, HT.sIx_nat, List.drop_zero, Nat.sub_zero, Nat.min_def]
  split
  · rfl
  · rw [List.take_length, List.take_of_length_le (by omega)]
theorem cut_drop (xs : List V) (k : Nat) : cutV xs (some (k : Int)) none = xs.drop k := by
  unfold cutV
  rw [HT.sIx_none, HT.sIx_nat]
  have e : xs.drop (min k xs.length) = xs.drop k := by
    rw [Nat.min_def]
    split
    · rfl
    · rw [List.drop_length, List.drop_of_length_le (by omega)]
  rw [e, List.take_of_length_le]
  rw [List.length_drop]
  omega
theorem yes_read {A B : Hp → Prop} {σ : L2.St} {H : Hp} (h : A H) : tYes σ H (fun b H3 => if b = true then A H3 else B H3) := by
  show if true = true then A H else B H
  rw [if_pos rfl]
  exact h
theorem small200 {n : Nat} (h : n ≤ 200) : n ≤ sizeLine := Nat.le_trans h (by decide)
theorem small200' {n : Nat} (h : n < 200) : n < sizeLine := Nat.lt_of_lt_of_le h (by decide)
theorem take_more {α : Type} {l : List α} {i : Nat} {x : α} (h : l[i]? = some x) : l.take (i + 1) = l.take i ++ [x] := by
  rw [List.take_add_one, h]; rfl
theorem rng_more (n : Int) (i : Nat) (h : i < n.toNat) : (rng n).take (i + 1) = (rng n).take i ++ [(i : Int)] := by
  refine take_more ?_
  unfold rng
  rw [List.getElem?_map, List.getElem?_range h]
  rfl

theorem and_t {A B : Prop} [Decidable A] [Decidable B] (h : decide A = true) : decide (A ∧ B) = decide B := by
  have := of_decide_eq_true h
  rw [decide_eq_decide]
  exact ⟨fun h => h.2, fun h => ⟨this, h⟩⟩
theorem and_f {A B : Prop} [Decidable A] [Decidable B] (h : ¬ decide A = true) : decide (A ∧ B) = false := decide_eq_false fun q => nd h q.1
theorem pmin (a b : Int) : (if b < a then b else a) = min a b := by
  by_cases h : b < a
  · rw [if_pos h, Int.min_eq_right (by omega)]
  · rw [if_neg h, Int.min_eq_left (by omega)]
theorem pmax (a b : Int) : (if b > a then b else a) = max a b := by
  by_cases h : b > a
  · rw [if_pos h, Int.max_eq_right (by omega)]
  · rw [if_neg h, Int.max_eq_left (by omega)]

/-! ### a cutting drawn -/
def sp_many (K : PySem.W.Frag) : Sp := fun vs H Q _ => ∃ (p : Addr) (rs : List Int), vs = [.ref p] ∧ SqL K H p (rs.map V.int) ∧ 2 ≤ rs.length ∧ ∀ n : Int, 3 ≤ n → n ≤ 12 → Q (.int n) H
theorem ok__law_many (T : Env K mg) (tb : LamX.TabB base mg (He.cT K bzM).1 (He.cT K bzM).2) (qa : T.a_busiest = He.fAd K bzM) : FnOk P w K mg base CX0 1 T.a__law_many T.fd__law_many ["_law_row"] (sp_many K) := by
  refine T.F__law_many.ok sc__law_many (fun vs H Q E h => ?_) (fun cdv A outer s H vs Q E hr h => ?_)
  · obtain ⟨p, rs, rfl, _⟩ := h
    rfl
  · obtain ⟨p, rs, rfl, hS, hl, q⟩ := h
    refine ⟨_, (pss_cons (ps_if (pt_cmpR op_eq (pe_op op_mod (pe_ix ix_list (pv 0) pe_int (fun _ _ => rfl)) pe_int) pe_int (nomark _))
 (pss_one (ps_ret (pe_op op_add pe_int (pe_op op_mod (pe_ix ix_list (pv 0) pe_int (fun _ _ => rfl)) pe_int))))
 pss_nil)
 (pss_one (ps_ret (pe_op op_add pe_int (pe_op op_mod (pe_ix ix_list (pv 0) pe_int (fun _ _ => rfl)) pe_int))))), ?_⟩
    obtain ⟨r0, m0, a0⟩ := int_at (rs := rs) (k := 0) (by omega)
    obtain ⟨r1, m1, a1⟩ := int_at (rs := rs) (k := 1) (by omega)
    have h4 := Int.emod_nonneg r1 (show (4 : Int) ≠ 0 by decide)
    have h4' := Int.emod_lt_of_pos r1 (show (0 : Int) < 4 by decide)
    have h6 := Int.emod_nonneg r1 (show (6 : Int) ≠ 0 by decide)
    have h6' := Int.emod_lt_of_pos r1 (show (0 : Int) < 6 by decide)
    refine ⟨_, rfl, p, _, _, _, rfl, rfl, hS, a0, _, _, rfl, rfl, (by show (0 : Int) < _; decide), rfl, _, rfl, ite2 (fun _ => ?_) (fun _ => ?_)⟩
    · exact ⟨_, rfl, p, _, _, _, rfl, rfl, hS, a1, _, _, rfl, rfl, (by show (0 : Int) < _; decide), _, _, rfl, rfl, q _ (by omega) (by omega)⟩
    · exact ⟨_, rfl, p, _, _, _, rfl, rfl, hS, a1, _, _, rfl, rfl, (by show (0 : Int) < _; decide), _, _, rfl, rfl, q _ (by omega) (by omega)⟩

def sp_pair : Sp := fun vs H Q _ => ∃ a b : Int, vs = [.int a, .int b] ∧ ∀ t, H t = none → Q (.ref t) (upd H t (.tup [.int (pr a b).1, .int (pr a b).2]))
theorem ok__law_pair (T : Env K mg) (tb : LamX.TabB base mg (He.cT K bzM).1 (He.cT K bzM).2) (qa : T.a_busiest = He.fAd K bzM) : FnOk P w K mg base CX0 1 T.a__law_pair T.fd__law_pair ["_law_a", "_law_b"] sp_pair := by
  refine T.F__law_pair.ok sc__law_pair (fun vs H Q E h => ?_) (fun cdv A outer s H vs Q E hr h => ?_)
  · obtain ⟨a, b, rfl, _⟩ := h
    rfl
  · obtain ⟨a, b, rfl, q⟩ := h
    refine ⟨_, (pss_one (ps_ret (pe_tup (pa_cons (pe_callB (call_min2 rfl) (by rfl) T.m_min (by decide +kernel) (pa_cons (pv 0) (pa_cons (pv 1) pa_nil))) (pa_cons (pe_callB (call_max2 rfl) (by rfl) T.m_max (by decide +kernel) (pa_cons (pv 0) (pa_cons (pv 1) pa_nil))) pa_nil))))), ?_⟩
    refine ⟨_, rfl, _, rfl, _, _, rfl, _, rfl, _, rfl, _, _, rfl, small200 (by show 2 ≤ 200; decide), fun t ht => ?_⟩
    have := q t ht
    rw [pmin, pmax]
    exact this
def TrAt (H : Hp) (x : V) (e : Int × Int × Int) : Prop := ∃ t, x = V.ref t ∧ H t = some (.tup [.int e.1, .int e.2.1, .int e.2.2])
abbrev TrL (H : Hp) (xs : List V) (l : List (Int × Int × Int)) : Prop := All2 (TrAt H) xs l
theorem TrL.tups {H H' : Hp} {xs : List V} {l : List (Int × Int × Int)} (s : TupS H H') (h : TrL H xs l) : TrL H' xs l := All2.mono h fun _ _ ⟨t, e, ht⟩ => ⟨t, e, s _ _ ht⟩
abbrev earR (e : Int × Int × Int) : Int × Int := pr e.2.1 e.2.2
def sp_ears (K : PySem.W.Frag) : Sp := fun vs H Q _ => ∃ (n : Int) (r : Addr) (rs : List Int), vs = [.int n, .ref r] ∧ 3 ≤ n ∧ n ≤ 12 ∧ SqL K H r (rs.map V.int) ∧ n ≤ rs.length + 3 ∧ rowOk rs ∧
  ∀ H' p xs es, Same H H' → H p = none → H' p = some (.lst xs) → TrL H' xs es → (es.length : Int) = n - 3 → IsCut n (es.map earR) → Q (.ref p) H'
theorem rng_perm_step {n : Int} {E : List (Int × Int)} {L : List Int} {r : Int × Int} {L' : List Int} (h : ∀ R, CutL L R → CutL (rng n) (E ++ R)) (s : ∀ R, CutL L' R → CutL L (r :: R)) : ∀ R, CutL L' R → CutL (rng n) ((E ++ [r]) ++ R) := fun R hR => by
  rw [List.append_assoc]
  exact h _ (s R hR)
def earW (n : Int) (r p : Addr) (H : Hp) : Nat → L2.St → Hp → Prop := fun m σ H' => ∃ (l : Addr) (k : Option V) (xs : List V) (es : List (Int × Int × Int)) (L : List Int), σ = [some (.int n), some (.ref r), k, some (.ref l), some (.ref p)] ∧ Same H H' ∧ H' p = some (.lst xs) ∧ l ≠ p ∧ TrL H' xs es ∧ H' l = some (.lst (L.map V.int)) ∧ L.length = m ∧ 3 ≤ m ∧ ((es.length + m : Nat) : Int) = n ∧ L.Pairwise (· < ·) ∧ ∀ R, CutL L R → CutL (rng n) (es.map earR ++ R)
theorem int_atN {rs : List Int} {k : Nat} (h : k < rs.length) : ∃ v : Int, rs[k]? = some v ∧ atI (rs.map V.int) (k : Int) = some (.int v) := by
  refine ⟨rs[k], List.getElem?_eq_getElem h, atI_nat ?_⟩
  rw [List.getElem?_map, List.getElem?_eq_getElem h]
  rfl
theorem ear_prev {L : List Int} {k : Nat} (hk : k < L.length) : ∃ p : Int, (if k = 0 then L.getLast? else L[k - 1]?) = some p ∧ atI (L.map V.int) ((k : Int) - 1) = some (.int p) := by
  by_cases h : k = 0
  · subst h
    have hne : L ≠ [] := fun e => by rw [e] at hk; cases hk
    refine ⟨L.getLast hne, by rw [if_pos rfl, List.getLast?_eq_some_getLast hne], ?_⟩
    have e : L.map V.int = L.dropLast.map V.int ++ [V.int (L.getLast hne)] := by
      rw [← List.map_singleton, ← List.map_append, List.dropLast_concat_getLast hne]
    rw [e]
    exact atI_last _ _
  · obtain ⟨v, e1, e2⟩ := int_atN (rs := L) (k := k - 1) (by omega)
    refine ⟨v, by rw [if_neg h]; exact e1, ?_⟩
    rw [show (k : Int) - 1 = ((k - 1 : Nat) : Int) by omega]
    exact e2
theorem ok__law_ears (T : Env K mg) (tb : LamX.TabB base mg (He.cT K bzM).1 (He.cT K bzM).2) (qa : T.a_busiest = He.fAd K bzM) : FnOk P w K mg base CX0 1 T.a__law_ears T.fd__law_ears ["_law_n", "_law_row"] (sp_ears K) := by
  refine T.F__law_ears.ok sc__law_ears (fun vs H Q E h => ?_) (fun cdv A outer s H vs Q E hr h => ?_)
  · obtain ⟨n, r, rs, rfl, _⟩ := h
    rfl
  · obtain ⟨n, r, rs, rfl, h3, h12, hS, hl, hro, q⟩ := h
    refine ⟨_, (pss_cons (ps_setLc (i := 3) (own := [("_law_k", 2)]) (by rfl) sc__law_ears.nd rfl rfl (sw_true rfl rfl rfl (by decide +kernel)) (pi_range1 (by rfl) T.m_range (pa_cons (pv 0) pa_nil)) (blkOk_by (own := [("_law_k", 2)]) (N := ["_law_n", "_law_row", "_law_k", "_law_left", "_law_ears_here"]) (sc := defScope s__law_ears) (by decide +kernel)) (fun _ _ _ _ _ => (pg_name (i := 2) sc__law_ears.nd rfl (.inl rfl))) (fun _ _ _ _ _ => pts_nil) (fun _ _ _ _ _ => (pv 2)))
 (pss_cons (ps_set (i := 4) sc__law_ears.nd rfl (.inl rfl) (pe_lst pa_nil))
 (pss_cons (ps_while PassesOwn.never (pt_cmpR op_gt (pe_callB (id := "len") call_len_seq (by rfl) T.m_len (by decide +kernel) (pa_cons (pv 3) pa_nil)) pe_int (nomark _))
 (C8.pss_cut (ps_set (i := 2) sc__law_ears.nd rfl (.inl rfl) (pe_op op_mod (pe_ix ix_list (pv 1) (pe_callB (id := "len") call_len_seq (by rfl) T.m_len (by decide +kernel) (pa_cons (pv 4) pa_nil)) (fun _ _ => rfl)) (pe_callB (id := "len") call_len_seq (by rfl) T.m_len (by decide +kernel) (pa_cons (pv 3) pa_nil))))
 (pss_cons (ps_expr (pe_bm PySem.F.plainAttrs_list PySem.F.slot_list_append PySem.F.type_list_append mt_append (pv 4) (pa_cons (pe_tup (pa_cons (pe_ix ix_list (pv 3) (pv 2) (fun _ _ => rfl)) (pa_cons (pe_ix ix_list (pv 3) (pe_op op_sub (pv 2) pe_int) (fun _ _ => rfl)) (pa_cons (pe_ix ix_list (pv 3) (pe_op op_mod (pe_op op_add (pv 2) pe_int) (pe_callB (id := "len") call_len_seq (by rfl) T.m_len (by decide +kernel) (pa_cons (pv 3) pa_nil))) (fun _ _ => rfl)) pa_nil)))) pa_nil)))
 (pss_one (ps_set (i := 3) sc__law_ears.nd rfl (.inl rfl) (pe_op op_cat (pe_slice sl_list (pv 3) po_none (po_some (pv 2))) (pe_slice sl_list (pv 3) (po_some (pe_op op_add (pv 2) pe_int)) po_none)))))))
 (pss_one (ps_ret (pv 4)))))), ?_⟩
    refine ⟨_, rfl, n, rfl, by omega, by omega, fun D hD => ?_⟩
    refine lc_range (lo := 0) (n := n.toNat) (fun j H2 => Same H H2 ∧ H2 D = some (.lst (((rng n).take j).map V.int))) ⟨same_new hD, upd_same⟩ ?_ ?_
    · rintro j H2 hj ⟨s2, hd2⟩
      refine ⟨rfl, yes_read ?_⟩
      refine ⟨_, rfl, _, hd2, small200' ?_, same_put s2 hD, ?_⟩
      · rw [List.length_map, List.length_take]; omega
      · rw [upd_same, rng_more n j hj, List.map_append, Int.zero_add]; rfl
    rintro H2 ⟨s2, hd2⟩
    rw [List.take_of_length_le (by rw [rng_len]; exact Nat.le_refl _)] at hd2
    refine ⟨Nat.zero_le _, fun p hp => ?_⟩
    have s3 : Same H2 _ := same_new (o := .lst []) hp
    have hDp : D ≠ p := ne_of_none hd2 hp
    have hpH : H p = none := by
      cases e : H p with
      | none => rfl
      | some o => rw [s2 _ _ e] at hp; cases hp
    refine ⟨earW n r p H, ⟨n.toNat, D, _, [], [], rng n, rfl, s2.trans s3, upd_same, hDp, .nil, s3 _ _ hd2, rng_len n, by omega, by simp; omega, rng_sorted n, fun R hR => hR⟩, ?_⟩
    rintro m σ H' ⟨l, k, xs, es, L, rfl, s4, hpx, hlp, hE, hL, rfl, hm3, hcnt, hLs, hcut⟩
    have hLl : (L.map V.int).length = L.length := List.length_map _
    have hSL : SqL K H' l (L.map V.int) := .inl (.inl hL)
    refine ⟨_, rfl, _, _, rfl, .inl hSL, _, _, rfl, rfl, _, rfl, ite2 (fun hd => ?_) (fun hd => ?_)⟩
    · have h4 : 4 ≤ L.length := by
        have := of_decide_eq_true hd
        rw [hLl] at this
        omega
      refine ⟨fun σ' H2 => ∃ m', m' < L.length ∧ earW n r p H m' σ' H2, fun _ _ h => h, ?_⟩
      have hxl := hE.length
      have hSR : SqL K H' r (rs.map V.int) := s4.seq hS
      obtain ⟨v0, mv0, av0⟩ := int_at (rs := rs) (k := es.length) (by omega)
      have b0 := hro v0 mv0
      refine ⟨fun σ' H2 => H2 = H' ∧ ∃ j : Nat, j < L.length ∧ σ' = [some (.int n), some (.ref r), some (.int (j : Int)), some (.ref l), some (.ref p)], ?_, ?_⟩
      · refine ⟨_, rfl, _, rfl, _, _, rfl, .inl (.inl (.inl hpx)), r, _, _, V.int v0, rfl, rfl, hSR, (by rw [hxl]; exact av0), _, rfl, _, _, rfl, .inl hSL, _, _, rfl, rfl, (by show (0 : Int) < _; omega), ?_⟩
        rw [hLl]
        refine ⟨rfl, (v0 % (L.length : Int)).toNat, ?_, ?_⟩
        · have k0 := Int.emod_nonneg v0 (show (L.length : Int) ≠ 0 by omega)
          have k1 := Int.emod_lt_of_pos v0 (show (0 : Int) < (L.length : Int) by omega)
          omega
        · rw [Int.toNat_of_nonneg (Int.emod_nonneg v0 (show (L.length : Int) ≠ 0 by omega))]; rfl
      rintro _ H' ⟨rfl, j, hjL, rfl⟩
      obtain ⟨v, ev, av⟩ := int_atN hjL
      obtain ⟨pv', ep, ap⟩ := ear_prev hjL
      obtain ⟨q', eq, aq⟩ := int_atN (rs := L) (k := (j + 1) % L.length) (Nat.mod_lt _ (by omega))
      have aq' : atI (L.map V.int) (((j : Int) + 1) % (L.length : Int)) = some (.int q') := by
        have e1 : ((j + 1 : Nat) : Int) = (j : Int) + 1 := by omega
        rw [← e1, ← Int.natCast_emod]
        exact aq
      have stp := fun R hR => ear_step (R := R) hLs h4 ev ep eq hR
      refine ⟨_, rfl, .inl ⟨rfl, _, .inl (.inl hpx)⟩, ?_⟩
      refine ⟨_, rfl, _, rfl, l, _, _, _, rfl, rfl, hSL, av, ?_⟩
      refine ⟨_, rfl, _, rfl, _, _, rfl, rfl, l, _, _, _, rfl, rfl, hSL, ap, ?_⟩
      refine ⟨_, rfl, _, rfl, _, _, rfl, rfl, _, rfl, _, _, rfl, .inl hSL, _, _, rfl, rfl, (by show (0 : Int) < _; rw [hLl]; omega), l, _, _, _, rfl, rfl, hSL, (by rw [hLl]; exact aq'), ?_⟩
      refine ⟨small200 (by show 3 ≤ 200; decide), fun t ht => ?_⟩
      have s5 : Same H' _ := same_new (o := .tup [.int v, .int pv', .int q']) ht
      have et : (upd H' t (.tup [.int v, .int pv', .int q'])) t = some (.tup [.int v, .int pv', .int q']) := upd_same
      generalize upd H' t (.tup [.int v, .int pv', .int q']) = H5 at *
      refine ⟨p, xs, _, rfl, rfl, s5 _ _ hpx, small200' (by omega), ?_⟩
      have hE5 : TrL (upd H5 p (.lst (xs ++ [.ref t]))) (xs ++ [.ref t]) (es ++ [(v, pv', q')]) := by
        have ts := TupS.put (o := .lst (xs ++ [.ref t])) (s5 _ _ hpx)
        exact (hE.tups ((TupS.of s5).trans ts)).app (.one ⟨t, rfl, ts _ _ et⟩)
      have hL5 : (upd H5 p (.lst (xs ++ [.ref t]))) l = some (.lst (L.map V.int)) := by
        rw [upd_ne hlp]; exact s5 _ _ hL
      have s6 : Same H (upd H5 p (.lst (xs ++ [.ref t]))) := fun b o e => by
        rw [upd_ne (ne_of_none e hpH)]
        exact s5 _ _ (s4 _ _ e)
      have hp6 : (upd H5 p (.lst (xs ++ [.ref t]))) p = some (.lst (xs ++ [.ref t])) := upd_same
      generalize upd H5 p (.lst (xs ++ [.ref t])) = H6 at *
      refine ⟨_, rfl, _, rfl, _, rfl, l, _, rfl, .inl (.inl hL5), fun c1 g1 => ?_⟩
      have u1 : Same H6 _ := same_new (o := .lst (cutV (L.map V.int) none (some (j : Int)))) g1
      have e1 : (upd H6 c1 (.lst (cutV (L.map V.int) none (some (j : Int))))) c1 = some (.lst ((L.map V.int).take j)) := by rw [upd_same, cut_take]
      generalize upd H6 c1 (.lst (cutV (L.map V.int) none (some (j : Int)))) = H7 at *
      refine ⟨_, rfl, _, rfl, _, _, rfl, rfl, _, rfl, l, _, rfl, .inl (.inl (u1 _ _ hL5)), fun c2 g2 => ?_⟩
      have u2 : Same H7 _ := same_new (o := .lst (cutV (L.map V.int) (some ((j : Int) + 1)) none)) g2
      have e2 : (upd H7 c2 (.lst (cutV (L.map V.int) (some ((j : Int) + 1)) none))) c2 = some (.lst ((L.map V.int).drop (j + 1))) := by
        rw [upd_same, show (j : Int) + 1 = ((j + 1 : Nat) : Int) by omega, cut_drop]
      generalize upd H7 c2 (.lst (cutV (L.map V.int) (some ((j : Int) + 1)) none)) = H8 at *
      have hlen : ((L.take j ++ L.drop (j + 1))).length = L.length - 1 := by
        rw [List.length_append, List.length_take, List.length_drop]; omega
      refine ⟨c1, c2, _, _, rfl, rfl, u2 _ _ e1, e2, small200 ?_, fun c3 g3 => ?_⟩
      · rw [← List.map_take, ← List.map_drop, ← List.length_append, ← List.map_append, List.length_map, hlen]
        omega
      have u3 : Same H8 _ := same_new (o := .lst ((L.map V.int).take j ++ (L.map V.int).drop (j + 1))) g3
      refine ⟨L.length - 1, by omega, c3, _, _, _, L.take j ++ L.drop (j + 1), rfl, ((s6.trans u1).trans u2).trans u3, u3 _ _ (u2 _ _ (u1 _ _ hp6)), (ne_of_none (u2 _ _ (u1 _ _ hp6)) g3).symm, hE5.tups (TupS.of ((u1.trans u2).trans u3)), ?_, hlen, by omega, ?_, ?_, ?_⟩
      · rw [upd_same, List.map_append, List.map_take, List.map_drop]
      · rw [List.length_append, List.length_singleton]; omega
      · exact hLs.sublist (by
          have h := List.Sublist.append (List.Sublist.refl (L.take j)) (List.drop_sublist_drop_left L (show j ≤ j + 1 by omega))
          rw [List.take_append_drop] at h
          exact h)
      · rw [List.map_append]
        exact rng_perm_step hcut stp
    · have hL3 : L.length = 3 := by
        have := nd hd
        rw [hLl] at this
        omega
      obtain ⟨a, b, c, rfl⟩ : ∃ a b c, L = [a, b, c] := by
        match L, hL3 with
        | [a, b, c], _ => exact ⟨a, b, c, rfl⟩
      have c1 := (List.pairwise_cons.mp hLs).1 b (by simp)
      have c2 := (List.pairwise_cons.mp (List.pairwise_cons.mp hLs).2).1 c (by simp)
      have c3 := hcut [] (cut3 c1 c2)
      rw [List.append_nil] at c3
      exact ⟨_, rfl, q H' p xs es s4 hpH hpx hE (by omega) (isCut_of h3 c3)⟩


/-! ### the ropes of a drawn cutting, sides, ties -/
theorem sp_new {H H' : Hp} {q : Addr} {o : HO} {H2 : Hp} (s : Same H H2) (h : H2 q = none) : Same H (upd H2 q o) := s.trans (same_new h)
theorem none_back {H H' : Hp} {q : Addr} (s : Same H H') (h : H' q = none) : H q = none := by
  cases e : H q with
  | none => rfl
  | some o => rw [s _ _ e] at h; cases h
def sp_ropes (K : PySem.W.Frag) : Sp := fun vs H Q _ => ∃ (p : Addr) (xs : List V) (es : List (Int × Int × Int)), vs = [.ref p] ∧ H p = some (.lst xs) ∧ TrL H xs es ∧ es.length ≤ 100 ∧
  ∀ H' q ys, Same H H' → H q = none → H' q = some (.lst ys) → PrL K H' ys (sort2 (es.map earR)) → Q (.ref q) H'
theorem ok__law_ropes (T : Env K mg) (tb : LamX.TabB base mg (He.cT K bzM).1 (He.cT K bzM).2) (qa : T.a_busiest = He.fAd K bzM) : FnOk P w K mg base CX0 2 T.a__law_ropes T.fd__law_ropes ["_law_ears_here"] (sp_ropes K) := by
  refine T.F__law_ropes.ok sc__law_ropes (fun vs H Q E h => ?_) (fun cdv A outer s H vs Q E hr h => ?_)
  · obtain ⟨p, xs, es, rfl, _⟩ := h
    rfl
  · obtain ⟨p, xs, es, rfl, hp, hE, hl, q⟩ := h
    refine ⟨_, (pss_one (ps_ret (pe_callB cr_sort2 (by rfl) T.m_sorted (by decide +kernel) (pa_cons (pe_lc (own := [("_law_ear", 1)]) (by rfl) sc__law_ropes.nd (pi_list (pv 0)) (blkOk_by (own := [("_law_ear", 1)]) (N := ["_law_ears_here", "_law_ear"]) (sc := defScope s__law_ropes) (by decide +kernel)) (fun _ _ _ _ _ => (pg_name (i := 1) sc__law_ropes.nd rfl (.inl rfl))) (fun _ _ _ _ _ => pts_nil) (fun _ _ _ _ _ => (pe_call (ok__law_pair T tb qa) (hr.mono (by decide)) (by rfl) T.g__law_pair T.F__law_pair.kp T.b__law_pair .nil pass0 (pa_cons (pe_ix (r := rIxT K) ix_tup (pv 1) pe_int (fun _ _ => rfl)) (pa_cons (pe_ix (r := rIxT K) ix_tup (pv 1) pe_int (fun _ _ => rfl)) pa_nil))))) pa_nil)))), ?_⟩
    have hxl := hE.length
    refine ⟨_, rfl, p, rfl, ⟨_, .inl (.inl hp)⟩, fun D hD => ?_⟩
    refine lc_list (K := K) (a := p) (xs := xs) (fun i H' => ∃ zs, Same H H' ∧ H' D = some (.lst zs) ∧ PrL K H' zs ((es.map earR).take i)) ⟨[], same_new hD, upd_same, by rw [List.take_zero]; exact .nil⟩ ?_ ?_ ?_
    · rintro i H' _ ⟨zs, s2, _, _⟩
      exact .inl (.inl (s2 _ _ hp))
    · rintro i x H' hi ⟨zs, s2, hz, hZ⟩
      obtain ⟨e, he, t, rfl, ht⟩ := hE.at hi
      have hT : SqT K H' t [.int e.1, .int e.2.1, .int e.2.2] := .inl (.inl (s2 _ _ ht))
      refine ⟨rfl, yes_read ?_⟩
      refine ⟨_, rfl, t, _, _, _, rfl, rfl, hT, atI_nat (j := 1) rfl, _, rfl, t, _, _, _, rfl, rfl, hT, atI_nat (j := 2) rfl, e.2.1, e.2.2, rfl, fun u hu => ?_⟩
      have s3 : Same H' _ := same_new (o := .tup [.int (pr e.2.1 e.2.2).1, .int (pr e.2.1 e.2.2).2]) hu
      have hu2 : (upd H' u (.tup [.int (pr e.2.1 e.2.2).1, .int (pr e.2.1 e.2.2).2])) u = some (.tup [.int (pr e.2.1 e.2.2).1, .int (pr e.2.1 e.2.2).2]) := upd_same
      generalize upd H' u (.tup [.int (pr e.2.1 e.2.2).1, .int (pr e.2.1 e.2.2).2]) = H3 at *
      have hzl := hZ.length
      rw [List.length_take, List.length_map] at hzl
      refine ⟨zs, s3 _ _ hz, small200' (by omega), zs ++ [.ref u], ?_, upd_same, ?_⟩
      · intro b o eb
        rw [upd_ne (ne_of_none eb hD)]
        exact s3 _ _ (s2 _ _ eb)
      · have em : (es.map earR)[i]? = some (earR e) := by rw [List.getElem?_map, he]; rfl
        rw [take_more em]
        have ts := TupS.put (o := .lst (zs ++ [.ref u])) (s3 _ _ hz)
        exact (hZ.tups ((TupS.of s3).trans ts)).app (.one ⟨u, rfl, ts _ _ hu2⟩)
    · rintro H' ⟨zs, s2, hz, hZ⟩
      rw [List.take_of_length_le (by rw [List.length_map]; omega)] at hZ
      refine ⟨D, zs, _, rfl, .inl (.inl hz), hZ, fun ys u hY hu => ?_⟩
      have s3 : Same H' _ := same_new (o := .lst ys) hu
      exact q _ u ys (s2.trans s3) (none_back s2 hu) upd_same (hY.mono s3)
def sp_sides (K : PySem.W.Frag) : Sp := fun vs H Q _ => ∃ n : Int, vs = [.int n] ∧ 3 ≤ n ∧ n ≤ 12 ∧ ∀ H' q ys, Same H H' → H q = none → H' q = some (.lst ys) → PrL K H' ys (sidesL n) → Q (.ref q) H'
theorem ok__law_sides (T : Env K mg) (tb : LamX.TabB base mg (He.cT K bzM).1 (He.cT K bzM).2) (qa : T.a_busiest = He.fAd K bzM) : FnOk P w K mg base CX0 1 T.a__law_sides T.fd__law_sides ["_law_n"] (sp_sides K) := by
  refine T.F__law_sides.ok sc__law_sides (fun vs H Q E h => ?_) (fun cdv A outer s H vs Q E hr h => ?_)
  · obtain ⟨n, rfl, _⟩ := h
    rfl
  · obtain ⟨n, rfl, h3, h12, q⟩ := h
    refine ⟨_, (pss_one (ps_ret (pe_op op_cat (pe_lc (own := [("_law_k", 1)]) (by rfl) sc__law_sides.nd (pi_range1 (by rfl) T.m_range (pa_cons (pe_op op_sub (pv 0) pe_int) pa_nil)) (blkOk_by (own := [("_law_k", 1)]) (N := ["_law_n", "_law_k"]) (sc := defScope s__law_sides) (by decide +kernel)) (fun _ _ _ _ _ => (pg_name (i := 1) sc__law_sides.nd rfl (.inl rfl))) (fun _ _ _ _ _ => pts_nil) (fun _ _ _ _ _ => (pe_tup (pa_cons (pv 1) (pa_cons (pe_op op_add (pv 1) pe_int) pa_nil))))) (pe_lst (pa_cons (pe_tup (pa_cons pe_int (pa_cons (pe_op op_sub (pv 0) pe_int) pa_nil))) pa_nil))))), ?_⟩
    refine ⟨_, rfl, _, _, rfl, rfl, n - 1, rfl, by omega, by omega, fun D hD => ?_⟩
    refine lc_range (lo := 0) (n := (n - 1).toNat) (fun i H' => ∃ zs, Same H H' ∧ H' D = some (.lst zs) ∧ PrL K H' zs (((rng (n - 1)).map (fun k => (k, k + 1))).take i)) ⟨[], same_new hD, upd_same, by rw [List.take_zero]; exact .nil⟩ ?_ ?_
    · rintro i H' hi ⟨zs, s2, hz, hZ⟩
      refine ⟨rfl, yes_read ?_⟩
      refine ⟨_, rfl, _, rfl, _, _, rfl, rfl, small200 (by show 2 ≤ 200; decide), fun u hu => ?_⟩
      have s3 : Same H' _ := same_new (o := .tup [.int (0 + (i : Int)), .int (0 + (i : Int) + 1)]) hu
      have hu2 : (upd H' u (.tup [.int (0 + (i : Int)), .int (0 + (i : Int) + 1)])) u = some (.tup [.int (0 + (i : Int)), .int (0 + (i : Int) + 1)]) := upd_same
      generalize upd H' u (.tup [.int (0 + (i : Int)), .int (0 + (i : Int) + 1)]) = H3 at *
      have hzl := hZ.length
      rw [List.length_take, List.length_map, rng_len] at hzl
      refine ⟨zs, s3 _ _ hz, small200' (by omega), zs ++ [.ref u], ?_, upd_same, ?_⟩
      · intro b o eb
        rw [upd_ne (ne_of_none eb hD)]
        exact s3 _ _ (s2 _ _ eb)
      · have em : ((rng (n - 1)).map (fun k => (k, k + 1)))[i]? = some ((0 + (i : Int)), (0 + (i : Int) + 1)) := by
          unfold rng
          rw [List.getElem?_map, List.getElem?_map, List.getElem?_range hi, Int.zero_add]; rfl
        rw [take_more em]
        have ts := TupS.put (o := .lst (zs ++ [.ref u])) (s3 _ _ hz)
        exact (hZ.tups ((TupS.of s3).trans ts)).app (.one ⟨u, rfl, ts _ _ hu2⟩)
    · rintro H' ⟨zs, s2, hz, hZ⟩
      rw [List.take_of_length_le (by rw [List.length_map, rng_len]; exact Nat.le_refl _)] at hZ
      have hzl := hZ.length
      rw [List.length_map, rng_len] at hzl
      refine ⟨_, rfl, _, _, rfl, rfl, small200 (by show 2 ≤ 200; decide), fun u hu => ?_⟩
      have s3 : Same H' _ := same_new (o := .tup [.int 0, .int (n - 1)]) hu
      have hu2 : (upd H' u (.tup [.int 0, .int (n - 1)])) u = some (.tup [.int 0, .int (n - 1)]) := upd_same
      generalize upd H' u (.tup [.int 0, .int (n - 1)]) = H3 at *
      refine ⟨small200 (by show 1 ≤ 200; decide), fun v hv => ?_⟩
      have s4 : Same H3 _ := same_new (o := .lst [.ref u]) hv
      have hv2 : (upd H3 v (.lst [.ref u])) v = some (.lst [.ref u]) := upd_same
      generalize upd H3 v (.lst [.ref u]) = H4 at *
      refine ⟨D, v, zs, [.ref u], rfl, rfl, s4 _ _ (s3 _ _ hz), hv2, small200 (by show zs.length + 1 ≤ 200; omega), fun r hr2 => ?_⟩
      have s5 : Same H4 _ := same_new (o := .lst (zs ++ [.ref u])) hr2
      have s6 := (s3.trans s4).trans s5
      exact q _ r _ (s2.trans s6) (none_back ((s2.trans s3).trans s4) hr2) upd_same ((hZ.mono s6).app (.one ⟨u, rfl, s5 _ _ (s4 _ _ hu2)⟩))
theorem sidesL_len {n : Int} (h : 3 ≤ n) : (sidesL n).length = n.toNat := by
  unfold sidesL
  rw [List.length_append, List.length_map, rng_len, List.length_singleton]
  omega
def sp_ties (K : PySem.W.Frag) : Sp := fun vs H Q _ => ∃ (n : Int) (c : Addr) (xs : List V) (l : List (Int × Int)), vs = [.int n, .ref c] ∧ 3 ≤ n ∧ n ≤ 12 ∧ H c = some (.lst xs) ∧ PrL K H xs l ∧ l.length ≤ 100 ∧
  ∀ H' q ys, Same H H' → H q = none → H' q = some (.lst ys) → PrL K H' ys (sort2 (sidesL n ++ l)) → Q (.ref q) H'
theorem ok__law_ties (T : Env K mg) (tb : LamX.TabB base mg (He.cT K bzM).1 (He.cT K bzM).2) (qa : T.a_busiest = He.fAd K bzM) : FnOk P w K mg base CX0 2 T.a__law_ties T.fd__law_ties ["_law_n", "_law_cut"] (sp_ties K) := by
  refine T.F__law_ties.ok sc__law_ties (fun vs H Q E h => ?_) (fun cdv A outer s H vs Q E hr h => ?_)
  · obtain ⟨n, c, xs, l, rfl, _⟩ := h
    rfl
  · obtain ⟨n, c, xs, l, rfl, h3, h12, hc, hL, hl, q⟩ := h
    refine ⟨_, (pss_one (ps_ret (pe_callB cr_sort2 (by rfl) T.m_sorted (by decide +kernel) (pa_cons (pe_op op_cat (pe_call (ok__law_sides T tb qa) (hr.mono (by decide)) (by rfl) T.g__law_sides T.F__law_sides.kp T.b__law_sides .nil pass0 (pa_cons (pv 0) pa_nil)) (pv 1)) pa_nil)))), ?_⟩
    refine ⟨_, rfl, n, rfl, h3, h12, fun H1 d ys s1 hd hd1 hD => ?_⟩
    have hxl := hL.length
    have hyl := hD.length
    rw [sidesL_len h3] at hyl
    refine ⟨_, rfl, d, c, ys, xs, rfl, rfl, hd1, s1 _ _ hc, small200 (by omega), fun e he => ?_⟩
    have s2 : Same H1 _ := same_new (o := .lst (ys ++ xs)) he
    refine ⟨e, _, _, rfl, .inl (.inl upd_same), (hD.mono s2).app (hL.mono (s1.trans s2)), fun zs u hZ hu => ?_⟩
    have s3 := (s1.trans s2).trans (same_new (o := .lst zs) hu)
    exact q _ u zs s3 (none_back (s1.trans s2) hu) upd_same (hZ.mono (same_new hu))

theorem ok_sides (T : Env K mg) (tb : LamX.TabB base mg (He.cT K bzM).1 (He.cT K bzM).2) (qa : T.a_busiest = He.fAd K bzM) : FnOk P w K mg base CX0 1 T.a_sides T.fd_sides ["n"] (sp_sides K) := by
  refine T.F_sides.ok sc_sides (fun vs H Q E h => ?_) (fun cdv A outer s H vs Q E hr h => ?_)
  · obtain ⟨n, rfl, _⟩ := h
    rfl
  · obtain ⟨n, rfl, h3, h12, q⟩ := h
    refine ⟨_, (pss_one (ps_ret (pe_op op_cat (pe_lc (own := [("post", 1)]) (by rfl) sc_sides.nd (pi_range1 (by rfl) T.m_range (pa_cons (pe_op op_sub (pv 0) pe_int) pa_nil)) (blkOk_by (own := [("post", 1)]) (N := ["n", "post"]) (sc := defScope s_sides) (by decide +kernel)) (fun _ _ _ _ _ => (pg_name (i := 1) sc_sides.nd rfl (.inl rfl))) (fun _ _ _ _ _ => pts_nil) (fun _ _ _ _ _ => (pe_tup (pa_cons (pv 1) (pa_cons (pe_op op_add (pv 1) pe_int) pa_nil))))) (pe_lst (pa_cons (pe_tup (pa_cons pe_int (pa_cons (pe_op op_sub (pv 0) pe_int) pa_nil))) pa_nil))))), ?_⟩
    refine ⟨_, rfl, _, _, rfl, rfl, n - 1, rfl, by omega, by omega, fun D hD => ?_⟩
    refine lc_range (lo := 0) (n := (n - 1).toNat) (fun i H' => ∃ zs, Same H H' ∧ H' D = some (.lst zs) ∧ PrL K H' zs (((rng (n - 1)).map (fun k => (k, k + 1))).take i)) ⟨[], same_new hD, upd_same, by rw [List.take_zero]; exact .nil⟩ ?_ ?_
    · rintro i H' hi ⟨zs, s2, hz, hZ⟩
      refine ⟨rfl, yes_read ?_⟩
      refine ⟨_, rfl, _, rfl, _, _, rfl, rfl, small200 (by show 2 ≤ 200; decide), fun u hu => ?_⟩
      have s3 : Same H' _ := same_new (o := .tup [.int (0 + (i : Int)), .int (0 + (i : Int) + 1)]) hu
      have hu2 : (upd H' u (.tup [.int (0 + (i : Int)), .int (0 + (i : Int) + 1)])) u = some (.tup [.int (0 + (i : Int)), .int (0 + (i : Int) + 1)]) := upd_same
      generalize upd H' u (.tup [.int (0 + (i : Int)), .int (0 + (i : Int) + 1)]) = H3 at *
      have hzl := hZ.length
      rw [List.length_take, List.length_map, rng_len] at hzl
      refine ⟨zs, s3 _ _ hz, small200' (by omega), zs ++ [.ref u], ?_, upd_same, ?_⟩
      · intro b o eb
        rw [upd_ne (ne_of_none eb hD)]
        exact s3 _ _ (s2 _ _ eb)
      · have em : ((rng (n - 1)).map (fun k => (k, k + 1)))[i]? = some ((0 + (i : Int)), (0 + (i : Int) + 1)) := by
          unfold rng
          rw [List.getElem?_map, List.getElem?_map, List.getElem?_range hi, Int.zero_add]; rfl
        rw [take_more em]
        have ts := TupS.put (o := .lst (zs ++ [.ref u])) (s3 _ _ hz)
        exact (hZ.tups ((TupS.of s3).trans ts)).app (.one ⟨u, rfl, ts _ _ hu2⟩)
    · rintro H' ⟨zs, s2, hz, hZ⟩
      rw [List.take_of_length_le (by rw [List.length_map, rng_len]; exact Nat.le_refl _)] at hZ
      have hzl := hZ.length
      rw [List.length_map, rng_len] at hzl
      refine ⟨_, rfl, _, _, rfl, rfl, small200 (by show 2 ≤ 200; decide), fun u hu => ?_⟩
      have s3 : Same H' _ := same_new (o := .tup [.int 0, .int (n - 1)]) hu
      have hu2 : (upd H' u (.tup [.int 0, .int (n - 1)])) u = some (.tup [.int 0, .int (n - 1)]) := upd_same
      generalize upd H' u (.tup [.int 0, .int (n - 1)]) = H3 at *
      refine ⟨small200 (by show 1 ≤ 200; decide), fun v hv => ?_⟩
      have s4 : Same H3 _ := same_new (o := .lst [.ref u]) hv
      have hv2 : (upd H3 v (.lst [.ref u])) v = some (.lst [.ref u]) := upd_same
      generalize upd H3 v (.lst [.ref u]) = H4 at *
      refine ⟨D, v, zs, [.ref u], rfl, rfl, s4 _ _ (s3 _ _ hz), hv2, small200 (by show zs.length + 1 ≤ 200; omega), fun r hr2 => ?_⟩
      have s5 : Same H4 _ := same_new (o := .lst (zs ++ [.ref u])) hr2
      have s6 := (s3.trans s4).trans s5
      exact q _ r _ (s2.trans s6) (none_back ((s2.trans s3).trans s4) hr2) upd_same ((hZ.mono s6).app (.one ⟨u, rfl, s5 _ _ (s4 _ _ hu2)⟩))
theorem ok_ties (T : Env K mg) (tb : LamX.TabB base mg (He.cT K bzM).1 (He.cT K bzM).2) (qa : T.a_busiest = He.fAd K bzM) : FnOk P w K mg base CX0 2 T.a_ties T.fd_ties ["n", "cut"] (sp_ties K) := by
  refine T.F_ties.ok sc_ties (fun vs H Q E h => ?_) (fun cdv A outer s H vs Q E hr h => ?_)
  · obtain ⟨n, c, xs, l, rfl, _⟩ := h
    rfl
  · obtain ⟨n, c, xs, l, rfl, h3, h12, hc, hL, hl, q⟩ := h
    refine ⟨_, (pss_one (ps_ret (pe_callB cr_sort2 (by rfl) T.m_sorted (by decide +kernel) (pa_cons (pe_op op_cat (pe_call (ok_sides T tb qa) (hr.mono (by decide)) (by rfl) T.g_sides T.F_sides.kp T.b_sides .nil pass0 (pa_cons (pv 0) pa_nil)) (pv 1)) pa_nil)))), ?_⟩
    refine ⟨_, rfl, n, rfl, h3, h12, fun H1 d ys s1 hd hd1 hD => ?_⟩
    have hxl := hL.length
    have hyl := hD.length
    rw [sidesL_len h3] at hyl
    refine ⟨_, rfl, d, c, ys, xs, rfl, rfl, hd1, s1 _ _ hc, small200 (by omega), fun e he => ?_⟩
    have s2 : Same H1 _ := same_new (o := .lst (ys ++ xs)) he
    refine ⟨e, _, _, rfl, .inl (.inl upd_same), (hD.mono s2).app (hL.mono (s1.trans s2)), fun zs u hZ hu => ?_⟩
    have s3 := (s1.trans s2).trans (same_new (o := .lst zs) hu)
    exact q _ u zs s3 (none_back (s1.trans s2) hu) upd_same (hZ.mono (same_new hu))

theorem ok_pair_of (T : Env K mg) (tb : LamX.TabB base mg (He.cT K bzM).1 (He.cT K bzM).2) (qa : T.a_busiest = He.fAd K bzM) : FnOk P w K mg base CX0 1 T.a_pair_of T.fd_pair_of ["a", "b"] sp_pair := by
  refine T.F_pair_of.ok sc_pair_of (fun vs H Q E h => ?_) (fun cdv A outer s H vs Q E hr h => ?_)
  · obtain ⟨a, b, rfl, _⟩ := h
    rfl
  · obtain ⟨a, b, rfl, q⟩ := h
    refine ⟨_, (pss_one (ps_ret (pe_tup (pa_cons (pe_callB (call_min2 rfl) (by rfl) T.m_min (by decide +kernel) (pa_cons (pv 0) (pa_cons (pv 1) pa_nil))) (pa_cons (pe_callB (call_max2 rfl) (by rfl) T.m_max (by decide +kernel) (pa_cons (pv 0) (pa_cons (pv 1) pa_nil))) pa_nil))))), ?_⟩
    refine ⟨_, rfl, _, rfl, _, _, rfl, _, rfl, _, rfl, _, _, rfl, small200 (by show 2 ≤ 200; decide), fun t ht => ?_⟩
    have := q t ht
    rw [pmin, pmax]
    exact this
abbrev tiesS (n : Int) (l : List (Int × Int)) : List (Int × Int) := sort2 (sidesL n ++ l)
theorem tiesS_len {n : Int} {l : List (Int × Int)} (h3 : 3 ≤ n) (h12 : n ≤ 12) (hl : l.length ≤ 100) : (tiesS n l).length ≤ 200 := by
  unfold tiesS
  rw [sort2_len, List.length_append, sidesL_len h3]
  omega
def sp_beside (K : PySem.W.Frag) (C : Addr) : Sp := fun vs H Q E => ∃ (n : Int) (c : Addr) (xs : List V) (l : List (Int × Int)) (a b : Int), vs = [.int n, .ref c, .int a, .int b] ∧ 3 ≤ n ∧ n ≤ 12 ∧ H c = some (.lst xs) ∧ PrL K H xs l ∧ l.length ≤ 100 ∧
  (pr a b ∉ tiesS n l → ∀ H', Same H H' → E (.ref C) none H') ∧
  (pr a b ∈ tiesS n l → ∀ H' q, Same H H' → H q = none → H' q = some (.lst ((besL (tiesS n l) n a b).map V.int)) → Q (.ref q) H')
theorem filter_more {α : Type} {P : α → Bool} {l : List α} {x : α} : (l ++ [x]).filter P = l.filter P ++ (if P x then [x] else []) := by
  rw [List.filter_append]
  congr 1
  cases h : P x <;> simp [List.filter_cons, h]
theorem ok_beside (T : Env K mg) (tb : LamX.TabB base mg (He.cT K bzM).1 (He.cT K bzM).2) (qa : T.a_busiest = He.fAd K bzM) : FnOk P w K mg base (L2.CX P w) 3 T.a_beside T.fd_beside ["n", "cut", "a", "b"] (sp_beside K T.C_NoRope) := by
  refine T.F_beside.okX sc_beside (fun vs H Q E h => ?_) (fun cdv A outer s H vs Q E hr h => ?_)
  · obtain ⟨n, c, xs, l, a, b, rfl, _⟩ := h
    rfl
  · obtain ⟨n, c, xs, l, a, b, rfl, h3, h12, hc, hL, hl, k0, k1⟩ := h
    refine ⟨_, (pss_cons (ps_set (i := 4) sc_beside.nd rfl (.inr rfl) (pe_call (ok_ties T tb qa) (hr.mono (by decide)) (by rfl) T.g_ties T.F_ties.kp T.b_ties .nil pass0 (pa_cons (pv 0) (pa_cons (pv 1) pa_nil))))
 (pss_cons (ps_if (pt_cmpR (op_notIn2 (by have h_ := Room.units2 hr; exact h_)) (pe_call (ok_pair_of T tb qa) (hr.mono (by decide)) (by rfl) T.g_pair_of T.F_pair_of.kp T.b_pair_of .nil pass0 (pa_cons (pv 2) (pa_cons (pv 3) pa_nil))) (pv 4) (by rfl))
 (pss_one (ps_raise rfl (takes_of rfl rfl rfl rfl) (pmk_own PySem.F.excBase_ValueError T.x_NoRope T.c_NoRope T.k_NoRope (raises_own T.bs_NoRope T.ty_NoRope) rfl)))
 pss_nil)
 (pss_one (ps_ret (pe_lc (own := [("post", 5)]) (by rfl) sc_beside.nd (pi_range1 (by rfl) T.m_range (pa_cons (pv 0) pa_nil)) (blkOk_by (own := [("post", 5)]) (N := ["n", "cut", "a", "b", "tied", "post"]) (sc := defScope s_beside) (by decide +kernel)) (fun _ _ _ _ _ => (pg_name (i := 5) sc_beside.nd rfl (.inl rfl))) (fun _ _ _ _ _ => (pts_one (PW.pt (pw_and (pt_cmpR (r := rIn2 K false) (op_in2 (by have h_ := Room.units2 hr; exact h_)) (pe_call (ok_pair_of T tb qa) (hr.mono (by decide)) (by rfl) T.g_pair_of T.F_pair_of.kp T.b_pair_of .nil pass0 (pa_cons (pv 2) (pa_cons (pv 5) pa_nil))) (pv 4) (by rfl)) (pw_and1 (pt_cmpR (r := rIn2 K false) (op_in2 (by have h_ := Room.units2 hr; exact h_)) (pe_call (ok_pair_of T tb qa) (hr.mono (by decide)) (by rfl) T.g_pair_of T.F_pair_of.kp T.b_pair_of .nil pass0 (pa_cons (pv 3) (pa_cons (pv 5) pa_nil))) (pv 4) (by rfl))))))) (fun _ _ _ _ _ => (pv 5))))))), ?_⟩
    have htl := tiesS_len h3 h12 hl
    refine ⟨_, rfl, _, rfl, n, c, xs, l, rfl, h3, h12, hc, hL, hl, fun H1 d ys s1 hd hd1 hY => ?_⟩
    refine ⟨_, rfl, _, rfl, a, b, rfl, fun t ht => ?_⟩
    have s2 : Same H1 _ := same_new (o := .tup [.int (pr a b).1, .int (pr a b).2]) ht
    have ht2 : (upd H1 t (.tup [.int (pr a b).1, .int (pr a b).2])) t = some (.tup [.int (pr a b).1, .int (pr a b).2]) := upd_same
    generalize upd H1 t (.tup [.int (pr a b).1, .int (pr a b).2]) = H2 at *
    refine ⟨_, rfl, pr a b, d, ys, _, ⟨t, rfl, ht2⟩, rfl, .inl (.inl (s2 _ _ hd1)), hY.mono s2, htl, _, rfl, ?_⟩
    refine ite2 (fun hd => ?_) (fun hd => ?_)
    · have hd : (!decide (pr a b ∈ tiesS n l)) = true := hd
      have hn : pr a b ∉ tiesS n l := fun hm => by rw [decide_eq_true hm] at hd; cases hd
      exact k0 hn H2 (s1.trans s2)
    · have hd : ¬ (!decide (pr a b ∈ tiesS n l)) = true := hd
      have hm : pr a b ∈ tiesS n l := Decidable.by_contra fun hn => hd (by rw [decide_eq_false hn]; rfl)
      have hd2 := s2 _ _ hd1
      have hY2 : PrL K H2 ys (tiesS n l) := hY.mono s2
      refine ⟨_, rfl, n, rfl, by omega, by omega, fun D hD => ?_⟩
      have hs12 := s1.trans s2
      refine lc_range (lo := 0) (n := n.toNat) (fun i H' => Same H2 H' ∧ H' D = some (.lst ((((rng n).take i).filter fun p => decide (pr a p ∈ tiesS n l) && decide (pr b p ∈ tiesS n l)).map V.int))) ⟨same_new hD, upd_same⟩ ?_ ?_
      · rintro i H' hi ⟨s3, hz⟩
        have hfl : (((rng n).take i).filter fun p => decide (pr a p ∈ tiesS n l) && decide (pr b p ∈ tiesS n l)).length ≤ i := Nat.le_trans (List.length_filter_le _ _) (by rw [List.length_take]; omega)
        have key : ∀ {H3 : Hp} (c : Bool), (decide (pr a (i : Int) ∈ tiesS n l) && decide (pr b (i : Int) ∈ tiesS n l)) = c → Same H' H3 →
            if c = true then ∃ acc, H3 D = some (.lst acc) ∧ acc.length < sizeLine ∧ (Same H2 (upd H3 D (.lst (acc ++ [.int (0 + (i : Int))]))) ∧ (upd H3 D (.lst (acc ++ [.int (0 + (i : Int))]))) D = some (.lst ((((rng n).take (i + 1)).filter fun p => decide (pr a p ∈ tiesS n l) && decide (pr b p ∈ tiesS n l)).map V.int)))
            else (Same H2 H3 ∧ H3 D = some (.lst ((((rng n).take (i + 1)).filter fun p => decide (pr a p ∈ tiesS n l) && decide (pr b p ∈ tiesS n l)).map V.int))) := by
          intro H3 c hc s4
          rw [rng_more n i hi, filter_more]
          have hz3 := s4 _ _ hz
          cases c with
          | true =>
            rw [if_pos rfl, hc, if_pos rfl]
            refine ⟨_, hz3, small200' (by rw [List.length_map]; omega), ?_, ?_⟩
            · intro b' o eb
              rw [upd_ne (ne_of_none eb hD)]
              exact s4 _ _ (s3 _ _ eb)
            · rw [upd_same, List.map_append, Int.zero_add]; rfl
          | false =>
            rw [if_neg Bool.false_ne_true, hc, if_neg Bool.false_ne_true, List.append_nil]
            exact ⟨s3.trans s4, hz3⟩
        refine ⟨rfl, _, rfl, _, rfl, a, 0 + (i : Int), rfl, fun u hu => ?_⟩
        have s4 : Same H' _ := same_new (o := .tup [.int (pr a (0 + (i : Int))).1, .int (pr a (0 + (i : Int))).2]) hu
        have hu2 : (upd H' u (.tup [.int (pr a (0 + (i : Int))).1, .int (pr a (0 + (i : Int))).2])) u = some (.tup [.int (pr a (0 + (i : Int))).1, .int (pr a (0 + (i : Int))).2]) := upd_same
        generalize upd H' u (.tup [.int (pr a (0 + (i : Int))).1, .int (pr a (0 + (i : Int))).2]) = H4 at *
        rw [Int.zero_add] at hu2
        refine ⟨_, rfl, pr a (i : Int), d, ys, _, ⟨u, rfl, hu2⟩, rfl, .inl (.inl (s4 _ _ (s3 _ _ hd2))), hY2.mono (s3.trans s4), htl, _, rfl, ?_⟩
        refine ite2 (fun hx => ?_) (fun hx => ?_)
        · have hx : decide (pr a (i : Int) ∈ tiesS n l) = true := hx
          refine ⟨_, rfl, _, rfl, b, 0 + (i : Int), rfl, fun u' hu' => ?_⟩
          have s5 : Same H4 _ := same_new (o := .tup [.int (pr b (0 + (i : Int))).1, .int (pr b (0 + (i : Int))).2]) hu'
          have hu3 : (upd H4 u' (.tup [.int (pr b (0 + (i : Int))).1, .int (pr b (0 + (i : Int))).2])) u' = some (.tup [.int (pr b (0 + (i : Int))).1, .int (pr b (0 + (i : Int))).2]) := upd_same
          generalize upd H4 u' (.tup [.int (pr b (0 + (i : Int))).1, .int (pr b (0 + (i : Int))).2]) = H5 at *
          rw [Int.zero_add] at hu3
          have s45 := s4.trans s5
          refine ⟨_, rfl, pr b (i : Int), d, ys, _, ⟨u', rfl, hu3⟩, rfl, .inl (.inl (s45 _ _ (s3 _ _ hd2))), hY2.mono (s3.trans s45), htl, _, rfl, ?_⟩
          have kk := key (H3 := H5) (decide (pr b (i : Int) ∈ tiesS n l)) (by rw [hx, Bool.true_and]) s45
          refine ite2 (fun hy => ?_) (fun hy => ?_)
          · have hy : decide (pr b (i : Int) ∈ tiesS n l) = true := hy
            rw [hy, if_pos rfl] at kk
            exact ⟨_, rfl, kk⟩
          · have hy : ¬ decide (pr b (i : Int) ∈ tiesS n l) = true := hy
            rw [if_neg hy] at kk
            exact kk
        · have hx : ¬ decide (pr a (i : Int) ∈ tiesS n l) = true := hx
          have kk := key (H3 := H4) false (by rw [Bool.eq_false_iff.mpr hx, Bool.false_and]) s4
          rw [if_neg Bool.false_ne_true] at kk
          exact kk
      · rintro H' ⟨s3, hz⟩
        rw [List.take_of_length_le (by rw [rng_len]; exact Nat.le_refl _)] at hz
        exact k1 hm H' D (hs12.trans s3) (none_back hs12 hD) hz

def sp_whole : Sp := fun vs H Q _ => ∃ n : Int, vs = [.int n] ∧ Q (.bl true) H
theorem ok__law_whole (T : Env K mg) (tb : LamX.TabB base mg (He.cT K bzM).1 (He.cT K bzM).2) (qa : T.a_busiest = He.fAd K bzM) : FnOk P w K mg base CX0 1 T.a__law_whole T.fd__law_whole ["_law_found"] sp_whole := by
  refine T.F__law_whole.ok sc__law_whole (fun vs H Q E h => ?_) (fun cdv A outer s H vs Q E hr h => ?_)
  · obtain ⟨n, rfl, _⟩ := h
    rfl
  · obtain ⟨n, rfl, q⟩ := h
    refine ⟨_, (pss_one (ps_ret (pe_and (pe_callB call_isi (by rfl) T.m_isinstance (by decide +kernel) (pa_cons (pv 0) (pa_cons (pe_bltn (v := .ty "int") (u := .type "int") (by rfl) T.m_int (by decide +kernel) rfl) pa_nil))) (pe_one (pe_not (pe_callB call_isi (by rfl) T.m_isinstance (by decide +kernel) (pa_cons (pv 0) (pa_cons (pe_bltn (v := .ty "bool") (u := .type "bool") (by rfl) T.m_bool (by decide +kernel) rfl) pa_nil)))))))), ?_⟩
    refine ⟨_, rfl, _, _, _, _, _, rfl, .ty _, .base (.int _), kit_ty (by decide +kernel), true, rfl, iteT ?_⟩
    exact ⟨_, rfl, _, _, _, _, _, rfl, .ty _, .base (.int _), kit_ty (by decide +kernel), false, rfl, q⟩

/-! ### turning -/
def turnL (n : Int) (l : List (Int × Int)) (p : Int × Int) : List (Int × Int) := match besL (tiesS n l) n p.1 p.2 with
  | [x, y] => sort2 ((l.filter fun q => decide (q ≠ p)) ++ [(x, y)])
  | _ => []
/-- what a turning makes -/
structure Turns (n : Int) (l : List (Int × Int)) (p : Int × Int) (x y : Int) : Prop where
  bes : besL (tiesS n l) n p.1 p.2 = [x, y]
  x0 : 0 ≤ x
  xy : x < y
  yn : y < n
  new : (x, y) ∉ l
  crs : (x < p.1 ∧ p.1 < y ∧ y < p.2) ∨ (p.1 < x ∧ x < p.2 ∧ p.2 < y)
  isC : IsCut n (turnL n l p)
  mem : ∀ q, q ∈ turnL n l p ↔ (q ∈ l ∧ q ≠ p) ∨ q = (x, y)
  srt : (turnL n l p).Pairwise le2
  len : (turnL n l p).length = l.length
theorem filter_ne_len {l : List (Int × Int)} {p : Int × Int} (hn : l.Nodup) (hp : p ∈ l) : (l.filter fun q => decide (q ≠ p)).length + 1 = l.length := by
  induction l with
  | nil => cases hp
  | cons a l ih =>
    rw [List.nodup_cons] at hn
    rw [List.filter_cons]
    by_cases e : a = p
    · subst e
      rw [if_neg (by simp)]
      have : l.filter (fun q => decide (q ≠ a)) = l := List.filter_eq_self.mpr fun q hq => decide_eq_true fun e => hn.1 (e ▸ hq)
      rw [this, List.length_cons]
    · rw [if_pos (by simpa using e), List.length_cons, List.length_cons, ih hn.2 ((List.mem_cons.mp hp).resolve_left (Ne.symm e))]
theorem turns {n : Int} {l : List (Int × Int)} {p : Int × Int} (hc : IsCut n l) (hp : p ∈ l) : ∃ x y, Turns n l p x y := by
  obtain ⟨a, b⟩ := p
  obtain ⟨x, y, h1, h2, h3, h4, h5, h6, h7⟩ := turn_cut hc (t := tiesS n l) (fun p => sort2_mem) hp
  have e : turnL n l (a, b) = sort2 ((l.filter fun q => decide (q ≠ (a, b))) ++ [(x, y)]) := by
    unfold turnL
    rw [h1]
  have hm : ∀ q, q ∈ turnL n l (a, b) ↔ (q ∈ l ∧ q ≠ (a, b)) ∨ q = (x, y) := fun q => by
    rw [e, sort2_mem, List.mem_append, List.mem_filter, decide_eq_true_eq, List.mem_singleton]
  have hnd : ((l.filter fun q => decide (q ≠ (a, b))) ++ [(x, y)]).Nodup := by
    rw [List.nodup_append]
    refine ⟨hc.nd.filter _, by simp, fun u hu v hv => ?_⟩
    rw [List.mem_singleton.mp hv]
    intro e
    rw [e] at hu
    exact h5 (List.mem_filter.mp hu).1
  refine ⟨x, y, h1, h2, h3, h4, h5, h6, h7 _ ?_ hm, hm, ?_, ?_⟩
  · rw [e]; exact sort2_nodup hnd
  · rw [e]; exact sort2_sorted _
  · rw [e, sort2_len, List.length_append, List.length_singleton]
    exact filter_ne_len hc.nd hp
def sp_newrope (K : PySem.W.Frag) (C : Addr) : Sp := fun vs H Q E => ∃ (n : Int) (c : Addr) (xs : List V) (l : List (Int × Int)) (a b : Int), vs = [.int n, .ref c, .int a, .int b] ∧ 3 ≤ n ∧ n ≤ 12 ∧ H c = some (.lst xs) ∧ PrL K H xs l ∧ l.length ≤ 100 ∧ IsCut n l ∧
  (pr a b ∉ l → ∀ H', Same H H' → E (.ref C) none H') ∧
  (pr a b ∈ l → ∀ x y, Turns n l (pr a b) x y → ∀ H' q, Same H H' → H q = none → H' q = some (.tup [.int x, .int y]) → Q (.ref q) H')
theorem rope_tie {n : Int} {l : List (Int × Int)} {p : Int × Int} (h : p ∈ l) : p ∈ tiesS n l := sort2_mem.mpr (List.mem_append.mpr (.inr h))
theorem ok_new_rope (T : Env K mg) (tb : LamX.TabB base mg (He.cT K bzM).1 (He.cT K bzM).2) (qa : T.a_busiest = He.fAd K bzM) : FnOk P w K mg base (L2.CX P w) 4 T.a_new_rope T.fd_new_rope ["n", "cut", "a", "b"] (sp_newrope K T.C_NoRope) := by
  refine T.F_new_rope.okX sc_new_rope (fun vs H Q E h => ?_) (fun cdv A outer s H vs Q E hr h => ?_)
  · obtain ⟨n, c, xs, l, a, b, rfl, _⟩ := h
    rfl
  · obtain ⟨n, c, xs, l, a, b, rfl, h3, h12, hc, hL, hl, hC, k0, k1⟩ := h
    refine ⟨_, (pss_cons (ps_if (pt_cmpR (op_notIn2 (by have h_ := Room.units2 hr; exact h_)) (pe_call (ok_pair_of T tb qa) (hr.mono (by decide)) (by rfl) T.g_pair_of T.F_pair_of.kp T.b_pair_of .nil pass0 (pa_cons (pv 2) (pa_cons (pv 3) pa_nil))) (pv 1) (by rfl))
 (pss_one (ps_raise rfl (takes_of rfl rfl rfl rfl) (pmk_own PySem.F.excBase_ValueError T.x_NoRope T.c_NoRope T.k_NoRope (raises_own T.bs_NoRope T.ty_NoRope) rfl)))
 pss_nil)
 (pss_one (ps_ret (pe_tupleOf (by rfl) T.m_tuple (pe_callS (ok_beside T tb qa) (hr.mono (by decide)) (by rfl) T.g_beside T.F_beside.kp T.b_beside (fun σ => passAt (takes_of rfl rfl rfl rfl) σ) (pa_cons (pv 0) (pa_cons (pv 1) (pa_cons (pv 2) (pa_cons (pv 3) pa_nil))))))))), ?_⟩
    refine ⟨_, rfl, _, rfl, a, b, rfl, fun t ht => ?_⟩
    have s2 : Same H _ := same_new (o := .tup [.int (pr a b).1, .int (pr a b).2]) ht
    have ht2 : (upd H t (.tup [.int (pr a b).1, .int (pr a b).2])) t = some (.tup [.int (pr a b).1, .int (pr a b).2]) := upd_same
    generalize upd H t (.tup [.int (pr a b).1, .int (pr a b).2]) = H2 at *
    refine ⟨_, rfl, pr a b, c, xs, l, ⟨t, rfl, ht2⟩, rfl, .inl (.inl (s2 _ _ hc)), hL.mono s2, by omega, _, rfl, ?_⟩
    refine ite2 (fun hd => ?_) (fun hd => ?_)
    · have hd : (!decide (pr a b ∈ l)) = true := hd
      have hn : pr a b ∉ l := fun hm => by rw [decide_eq_true hm] at hd; cases hd
      exact k0 hn H2 s2
    · have hd : ¬ (!decide (pr a b ∈ l)) = true := hd
      have hm : pr a b ∈ l := Decidable.by_contra fun hn => hd (by rw [decide_eq_false hn]; rfl)
      obtain ⟨x, y, hT⟩ := turns hC hm
      refine ⟨_, rfl, _, rfl, _, rfl, _, rfl, n, c, xs, l, a, b, rfl, h3, h12, s2 _ _ hc, hL.mono s2, hl, fun hn => absurd (rope_tie hm) hn, fun _ H3 q s3 nq hq => ?_⟩
      have eb : besL (tiesS n l) n a b = [x, y] := (besL_pr _ _ _ _).trans hT.bes
      rw [eb] at hq
      refine .inl ⟨q, _, rfl, .inl (.inl hq), fun u hu => ?_⟩
      exact k1 hm x y hT _ u (s2.trans (s3.trans (same_new hu))) (none_back (s2.trans s3) hu) upd_same
def sp_turned (K : PySem.W.Frag) (C : Addr) : Sp := fun vs H Q E => ∃ (n : Int) (c : Addr) (xs : List V) (l : List (Int × Int)) (a b : Int), vs = [.int n, .ref c, .int a, .int b] ∧ 3 ≤ n ∧ n ≤ 12 ∧ H c = some (.lst xs) ∧ PrL K H xs l ∧ l.length ≤ 100 ∧ IsCut n l ∧
  (pr a b ∉ l → ∀ H', Same H H' → E (.ref C) none H') ∧
  (pr a b ∈ l → ∀ H' q ys, Same H H' → H q = none → H' q = some (.lst ys) → PrL K H' ys (turnL n l (pr a b)) → Q (.ref q) H')
theorem ok_turned (T : Env K mg) (tb : LamX.TabB base mg (He.cT K bzM).1 (He.cT K bzM).2) (qa : T.a_busiest = He.fAd K bzM) : FnOk P w K mg base (L2.CX P w) 5 T.a_turned T.fd_turned ["n", "cut", "a", "b"] (sp_turned K T.C_NoRope) := by
  refine T.F_turned.okX sc_turned (fun vs H Q E h => ?_) (fun cdv A outer s H vs Q E hr h => ?_)
  · obtain ⟨n, c, xs, l, a, b, rfl, _⟩ := h
    rfl
  · obtain ⟨n, c, xs, l, a, b, rfl, h3, h12, hc, hL, hl, hC, k0, k1⟩ := h
    refine ⟨_, (pss_cons (ps_set (i := 4) sc_turned.nd rfl (.inl rfl) (pe_callS (ok_new_rope T tb qa) (hr.mono (by decide)) (by rfl) T.g_new_rope T.F_new_rope.kp T.b_new_rope (fun σ => passAt (takes_of rfl rfl rfl rfl) σ) (pa_cons (pv 0) (pa_cons (pv 1) (pa_cons (pv 2) (pa_cons (pv 3) pa_nil))))))
 (pss_cons (ps_set (i := 5) sc_turned.nd rfl (.inr rfl) (pe_call (ok_pair_of T tb qa) (hr.mono (by decide)) (by rfl) T.g_pair_of T.F_pair_of.kp T.b_pair_of .nil pass0 (pa_cons (pv 2) (pa_cons (pv 3) pa_nil))))
 (pss_one (ps_ret (pe_callB cr_sort2 (by rfl) T.m_sorted (by decide +kernel) (pa_cons (pe_op op_cat (pe_lc (own := [("rope", 6)]) (by rfl) sc_turned.nd (pi_list (pv 1)) (blkOk_by (own := [("rope", 6)]) (N := ["n", "cut", "a", "b", "laid", "old", "rope"]) (sc := defScope s_turned) (by decide +kernel)) (fun _ _ _ _ _ => (pg_name (i := 6) sc_turned.nd rfl (.inl rfl))) (fun _ _ _ _ _ => (pts_one (pt_cmpR (r := rEqP2 K true) (op_neP2 (by have h_ := hr.units; exact h_)) (pv 6) (pv 5) (nomark _)))) (fun _ _ _ _ _ => (pv 6))) (pe_lst (pa_cons (pv 4) pa_nil))) pa_nil)))))), ?_⟩
    refine ⟨_, rfl, _, rfl, _, rfl, _, rfl, n, c, xs, l, a, b, rfl, h3, h12, hc, hL, hl, hC, k0, fun hm x y hT H1 u s1 nu hu => ?_⟩
    refine ⟨_, rfl, _, rfl, a, b, rfl, fun t ht => ?_⟩
    have s2 : Same H1 _ := same_new (o := .tup [.int (pr a b).1, .int (pr a b).2]) ht
    have ht2 : (upd H1 t (.tup [.int (pr a b).1, .int (pr a b).2])) t = some (.tup [.int (pr a b).1, .int (pr a b).2]) := upd_same
    generalize upd H1 t (.tup [.int (pr a b).1, .int (pr a b).2]) = H2 at *
    have s12 := s1.trans s2
    have hxl := hL.length
    refine ⟨_, rfl, c, rfl, ⟨_, .inl (.inl (s12 _ _ hc))⟩, fun D hD => ?_⟩
    refine lc_list (K := K) (a := c) (xs := xs) (fun i H' => ∃ zs, Same H2 H' ∧ H' D = some (.lst zs) ∧ PrL K H' zs ((l.take i).filter fun q => decide (q ≠ pr a b))) ⟨[], same_new hD, upd_same, by rw [List.take_zero]; exact .nil⟩ ?_ ?_ ?_
    · rintro i H' _ ⟨zs, s3, _, _⟩
      exact .inl (.inl (s3 _ _ (s12 _ _ hc)))
    · rintro i x' H' hi ⟨zs, s3, hz, hZ⟩
      obtain ⟨p, hp, hx⟩ := hL.at hi
      have hx' := hx.mono (s12.trans s3)
      have hil : i < l.length := (List.getElem?_eq_some_iff.mp hp).1
      have hzl := hZ.length
      have hfl : ((l.take i).filter fun q => decide (q ≠ pr a b)).length ≤ i := Nat.le_trans (List.length_filter_le _ _) (by rw [List.length_take]; omega)
      refine ⟨rfl, _, rfl, _, rfl, p, pr a b, hx', ⟨t, rfl, s3 _ _ ht2⟩, _, rfl, ?_⟩
      show if (!decide (p = pr a b)) = true then _ else _
      rw [take_more hp, filter_more]
      by_cases e : p = pr a b
      · rw [decide_eq_true e]
        refine iteF ?_
        rw [if_neg (by simp [e]), List.append_nil]
        exact ⟨zs, s3, hz, hZ⟩
      · rw [decide_eq_false e]
        refine iteT ?_
        rw [if_pos (by simpa using e)]
        refine ⟨_, rfl, zs, hz, small200' (by omega), zs ++ [x'], ?_, upd_same, ?_⟩
        · intro b' o eb
          rw [upd_ne (ne_of_none eb hD)]
          exact s3 _ _ eb
        · have ts := TupS.put (o := .lst (zs ++ [x'])) hz
          exact (hZ.tups ts).app (.one (let ⟨t', e1, e2⟩ := hx'; ⟨t', e1, ts _ _ e2⟩))
    · rintro H' ⟨zs, s3, hz, hZ⟩
      rw [List.take_of_length_le (by omega)] at hZ
      have hzl := hZ.length
      have hfl : (l.filter fun q => decide (q ≠ pr a b)).length ≤ l.length := List.length_filter_le _ _
      refine ⟨_, rfl, small200 (by show 1 ≤ 200; decide), fun v hv => ?_⟩
      have s4 : Same H' _ := same_new (o := .lst [.ref u]) hv
      have hv2 : (upd H' v (.lst [.ref u])) v = some (.lst [.ref u]) := upd_same
      generalize upd H' v (.lst [.ref u]) = H4 at *
      refine ⟨D, v, zs, [.ref u], rfl, rfl, s4 _ _ hz, hv2, small200 (by show zs.length + 1 ≤ 200; omega), fun r hr2 => ?_⟩
      have s5 : Same H4 _ := same_new (o := .lst (zs ++ [.ref u])) hr2
      have hu5 := s5 _ _ (s4 _ _ (s3 _ _ (s2 _ _ hu)))
      have hr3 : (upd H4 r (.lst (zs ++ [.ref u]))) r = some (.lst (zs ++ [.ref u])) := upd_same
      generalize upd H4 r (.lst (zs ++ [.ref u])) = H5 at *
      have s15 := (s12.trans s3).trans (s4.trans s5)
      have hZ5 : PrL K H5 (zs ++ [.ref u]) ((l.filter fun q => decide (q ≠ pr a b)) ++ [(x, y)]) := (hZ.mono (s4.trans s5)).app (.one ⟨u, rfl, hu5⟩)
      refine ⟨r, _, _, rfl, .inl (.inl hr3), hZ5, fun ys g hY hg => ?_⟩
      have e : turnL n l (pr a b) = sort2 ((l.filter fun q => decide (q ≠ pr a b)) ++ [(x, y)]) := by
        unfold turnL
        rw [hT.bes]
      rw [← e] at hY
      have s6 : Same H5 _ := same_new (o := .lst ys) hg
      exact k1 hm _ g ys (s15.trans s6) (none_back s15 hg) upd_same (hY.mono s6)

/-! ### two pairs cross -/
def crossI (p q : Int × Int) : Bool := if q.1 = p.1 ∨ q.1 = p.2 ∨ q.2 = p.1 ∨ q.2 = p.2 then false else
  decide ((decide (min p.1 p.2 < q.1 ∧ q.1 < max p.1 p.2)) ≠ (decide (min p.1 p.2 < q.2 ∧ q.2 < max p.1 p.2)))
theorem dec_ne (A B : Prop) [Decidable A] [Decidable B] : (decide A ≠ decide B) ↔ ¬ (A ↔ B) := by
  by_cases h1 : A <;> by_cases h2 : B <;> simp [h1, h2]
theorem crossI_symm {p q : Int × Int} (h1 : p.1 ≠ p.2) (h2 : q.1 ≠ q.2) : crossI p q = crossI q p := by
  obtain ⟨a, b⟩ := p
  obtain ⟨c, d⟩ := q
  unfold crossI
  dsimp only at *
  by_cases e : c = a ∨ c = b ∨ d = a ∨ d = b
  · rw [if_pos e, if_pos (by omega)]
  · rw [if_neg e, if_neg (by omega), decide_eq_decide, dec_ne, dec_ne]
    omega
def sp_cross (K : PySem.W.Frag) : Sp := fun vs H Q _ => ∃ (x y : V) (p q : Int × Int), vs = [x, y] ∧ PrAt K H x p ∧ PrAt K H y q ∧ Q (.bl (crossI p q)) H
def sp_crosses (K : PySem.W.Frag) : Sp := fun vs H Q _ => ∃ (x y : V) (p q : Int × Int), vs = [x, y] ∧ PrAt K H x p ∧ PrAt K H y q ∧ Q (.bl (crossI q p)) H
theorem inV2 (i a b : Int) : inV (V.int i) [V.int a, V.int b] = decide (i = a ∨ i = b) := by
  show ((a == i) || ((b == i) || false)) = _
  have e : ∀ x y : Int, (x == y) = decide (y = x) := fun x y => by
    by_cases h : y = x
    · rw [decide_eq_true h, h]; exact beq_self_eq_true x
    · rw [decide_eq_false h]; exact beq_eq_false_iff_ne.mpr fun z => h z.symm
  rw [Bool.or_false, e, e, ← Bool.decide_or]
/-- low < i < high, i asked once -/
def rChainI (lo hi i : Int) : Bool := decide (lo < i ∧ i < hi)

theorem cross_fin {lo hi i j : Int} : (!decide (V.bl (decide (lo < i ∧ i < hi)) = V.bl (decide (lo < j ∧ j < hi)))) = decide ((decide (lo < i ∧ i < hi)) ≠ (decide (lo < j ∧ j < hi))) := by
  rw [← decide_not, decide_eq_decide]
  exact ⟨fun h e => h (congrArg V.bl e), fun h e => h (V.bl.inj e)⟩
theorem crossI_t {p q : Int × Int} (h : q.1 = p.1 ∨ q.1 = p.2 ∨ q.2 = p.1 ∨ q.2 = p.2) : crossI p q = false := by unfold crossI; rw [if_pos h]
theorem crossI_f {p q : Int × Int} (h : ¬ (q.1 = p.1 ∨ q.1 = p.2 ∨ q.2 = p.1 ∨ q.2 = p.2)) : crossI p q = (!decide (V.bl (decide (min p.1 p.2 < q.1 ∧ q.1 < max p.1 p.2)) = V.bl (decide (min p.1 p.2 < q.2 ∧ q.2 < max p.1 p.2)))) := by
  unfold crossI
  rw [cross_fin, if_neg h]

/-! ### turned and turned again: the mathematics -/
theorem list2_ext {l m : List (Int × Int)} (h1 : l.Pairwise le2) (h2 : m.Pairwise le2) (n1 : l.Nodup) (n2 : m.Nodup) (h : ∀ x, x ∈ l ↔ x ∈ m) : l = m :=
  List.Perm.eq_of_pairwise (le := le2) (fun _ _ _ _ => le2_anti) h1 h2 ((List.perm_ext_iff_of_nodup n1 n2).mpr h)
theorem cut_lt {n : Int} {l : List (Int × Int)} (h : IsCut n l) {p : Int × Int} (hp : p ∈ l) : 0 ≤ p.1 ∧ p.1 + 2 ≤ p.2 ∧ p.2 < n := by
  obtain ⟨T, hT, hR⟩ := h.ex
  obtain ⟨a, b⟩ := p
  have := (hR a b).mp hp
  have t := tie_in hT this.1
  exact ⟨t.1, this.2.1, by show b < n; omega⟩
theorem cut_nocross {n : Int} {l : List (Int × Int)} (h : IsCut n l) {p q : Int × Int} (hp : p ∈ l) (hq : q ∈ l) : crossI p q = false := by
  obtain ⟨T, hT, hR⟩ := h.ex
  obtain ⟨a, b⟩ := p
  obtain ⟨c, d⟩ := q
  have tp := ((hR a b).mp hp).1
  have tq := ((hR c d).mp hq).1
  have ip := tie_in hT tp
  have iq := tie_in hT tq
  by_cases e : c = a ∨ c = b ∨ d = a ∨ d = b
  · exact crossI_t e
  · unfold crossI
    rw [if_neg e, decide_eq_false]
    dsimp only
    rw [Int.min_eq_left (by omega), Int.max_eq_right (by omega), dec_ne]
    intro hne
    by_cases h1 : a < c ∧ c < b
    · exact nocross hT tp tq h1.1 h1.2 (by omega)
    · exact nocross hT tq tp (a := c) (b := d) (by omega) (by omega) (by omega)
theorem turns_cross {n : Int} {l : List (Int × Int)} {p : Int × Int} {x y : Int} (h : Turns n l p x y) : crossI (x, y) p = true := by
  have := h.crs
  have := h.xy
  unfold crossI
  rw [if_neg (by dsimp only; omega), decide_eq_true]
  dsimp only
  rw [Int.min_eq_left (by omega), Int.max_eq_right (by omega), dec_ne]
  omega
theorem one_of {l : List (Int × Int)} {p : Int × Int} (hn : l.Nodup) (h : ∀ q, q ∈ l ↔ q = p) : l = [p] := by
  have : l.Perm [p] := (List.perm_ext_iff_of_nodup hn (by simp)).mpr fun q => by rw [h, List.mem_singleton]
  exact List.perm_singleton.mp this
theorem turns_fresh {n : Int} {l : List (Int × Int)} {p : Int × Int} {x y : Int} (h : Turns n l p x y) : ((turnL n l p).filter fun q => decide (q ∉ l)) = [(x, y)] := by
  refine one_of (h.isC.nd.filter _) fun q => ?_
  rw [List.mem_filter, decide_eq_true_eq, h.mem]
  constructor
  · rintro ⟨⟨h1, _⟩ | h1, h2⟩
    · exact absurd h1 h2
    · exact h1
  · rintro rfl
    exact ⟨.inr rfl, h.new⟩
theorem turns_old {n : Int} {l : List (Int × Int)} {p : Int × Int} {x y : Int} (h : Turns n l p x y) : p ∉ turnL n l p := fun hm => by
  have hc := h.crs
  rcases (h.mem p).mp hm with ⟨_, h2⟩ | h2
  · exact h2 rfl
  · rw [h2] at hc
    dsimp only at hc
    omega
theorem pr_comm (a b : Int) : pr a b = pr b a := by
  show (min a b, max a b) = (min b a, max b a)
  rw [Int.min_comm, Int.max_comm]
theorem pr_of_lt {a b : Int} (h : a < b) : pr a b = (a, b) := by
  show (min a b, max a b) = _
  rw [Int.min_eq_left (by omega), Int.max_eq_right (by omega)]
theorem turn_back {n : Int} {l : List (Int × Int)} {p : Int × Int} {x y : Int} (hc : IsCut n l) (hs : l.Pairwise le2) (hp : p ∈ l) (h : Turns n l p x y) : turnL n (turnL n l p) (x, y) = l := by
  have hxm : (x, y) ∈ turnL n l p := (h.mem _).mpr (.inr rfl)
  obtain ⟨x', y', h'⟩ := turns h.isC hxm
  obtain ⟨a, b⟩ := p
  have lt := cut_lt hc hp
  have hcr := h.crs
  dsimp only at lt hcr
  have hx : x ∈ besL (tiesS n l) n a b := by rw [h.bes]; simp
  have hy : y ∈ besL (tiesS n l) n a b := by rw [h.bes]; simp
  have sp : ∀ z, z ∈ besL (tiesS n l) n a b → pr a z ∈ tiesS n l ∧ pr b z ∈ tiesS n l := fun z hz => by
    have := (List.mem_filter.mp hz).2
    rw [Bool.and_eq_true, decide_eq_true_eq, decide_eq_true_eq] at this
    exact this
  have mv : ∀ q, q ∈ tiesS n l → q ≠ (a, b) → q ∈ tiesS n (turnL n l (a, b)) := fun q hq hne => by
    have := sort2_mem.mp hq
    refine sort2_mem.mpr ?_
    rcases List.mem_append.mp this with h1 | h1
    · exact List.mem_append.mpr (.inl h1)
    · exact List.mem_append.mpr (.inr ((h.mem q).mpr (.inl ⟨h1, hne⟩)))
  have ne1 : ∀ z, z ≠ a → z ≠ b → pr a z ≠ (a, b) ∧ pr b z ≠ (a, b) := fun z h1 h2 => by
    constructor
    · intro e
      have e1 : min a z = a := congrArg Prod.fst e
      have e2 : max a z = b := congrArg Prod.snd e
      omega
    · intro e
      have e1 : min b z = a := congrArg Prod.fst e
      have e2 : max b z = b := congrArg Prod.snd e
      omega
  have nx := ne1 x (by omega) (by omega)
  have ny := ne1 y (by omega) (by omega)
  have ax := mv _ (sp x hx).1 nx.1
  have bx := mv _ (sp x hx).2 nx.2
  have ay := mv _ (sp y hy).1 ny.1
  have bx' := mv _ (sp y hy).2 ny.2
  have ha : a ∈ besL (tiesS n (turnL n l (a, b))) n x y := by
    refine List.mem_filter.mpr ⟨mem_rng.mpr ⟨lt.1, by omega⟩, ?_⟩
    rw [pr_comm x a, pr_comm y a, decide_eq_true ax, decide_eq_true ay]; rfl
  have hb : b ∈ besL (tiesS n (turnL n l (a, b))) n x y := by
    refine List.mem_filter.mpr ⟨mem_rng.mpr ⟨by omega, lt.2.2⟩, ?_⟩
    rw [pr_comm x b, pr_comm y b, decide_eq_true bx, decide_eq_true bx']; rfl
  rw [h'.bes] at ha hb
  have hxy' := h'.xy
  simp only [List.mem_cons, List.not_mem_nil, or_false] at ha hb
  have e1 : x' = a := by omega
  have e2 : y' = b := by omega
  subst e1; subst e2
  refine list2_ext h'.srt hs h'.isC.nd hc.nd fun q => ?_
  rw [h'.mem, h.mem]
  constructor
  · rintro (⟨⟨h1, _⟩ | h1, h2⟩ | h1)
    · exact h1
    · exact absurd h1 h2
    · rw [h1]; exact hp
  · intro hq
    by_cases e : q = (x', y')
    · exact .inr e
    · refine .inl ⟨.inl ⟨hq, e⟩, fun e2 => h.new (e2 ▸ hq)⟩

def TupAt (H : Hp) (x : V) (ns : List Int) : Prop := ∃ t, x = V.ref t ∧ H t = some (.tup (ns.map V.int))
theorem PrAt.tup {H : Hp} {x : V} {p : Int × Int} (h : PrAt K H x p) : TupAt H x [p.1, p.2] := h
def sp_tuple : Sp := fun vs H Q _ => ∃ (x : V) (ns : List Int), vs = [x, .int (ns.length : Int)] ∧ TupAt H x ns ∧ ns.length ≤ 100 ∧ Q (.bl true) H
theorem ok__law_tuple (T : Env K mg) (tb : LamX.TabB base mg (He.cT K bzM).1 (He.cT K bzM).2) (qa : T.a_busiest = He.fAd K bzM) : FnOk P w K mg base CX0 2 T.a__law_tuple T.fd__law_tuple ["_law_found", "_law_many_here"] sp_tuple := by
  refine T.F__law_tuple.ok sc__law_tuple (fun vs H Q E h => ?_) (fun cdv A outer s H vs Q E hr h => ?_)
  · obtain ⟨x, ns, rfl, _⟩ := h
    rfl
  · obtain ⟨x, ns, rfl, hx, hl, q⟩ := h
    refine ⟨_, (pss_cons (ps_if (PW.pt (pw_or (pt_not (pt_val (pe_callB call_isi (by rfl) T.m_isinstance (by decide +kernel) (pa_cons (pv 0) (pa_cons (pe_bltn (v := .ty "tuple") (u := .type "tuple") (by rfl) T.m_tuple (by decide +kernel) rfl) pa_nil))))) (pw_or1 (pt_cmpR op_ne (pe_callB (id := "len") call_len_seq (by rfl) T.m_len (by decide +kernel) (pa_cons (pv 0) pa_nil)) (pv 1) (nomark _)))))
 (pss_one (ps_ret pe_bl))
 pss_nil)
 (pss_cons (ps_for PassesOwn.never rfl (pi_tup (pv 0)) (pg_name (i := 2) sc__law_tuple.nd rfl (.inl rfl))
 (pss_one (ps_if (pt_not (pt_val (pe_call (ok__law_whole T tb qa) (hr.mono (by decide)) (by rfl) T.g__law_whole T.F__law_whole.kp T.b__law_whole .nil pass0 (pa_cons (pv 2) pa_nil))))
 (pss_one (ps_ret pe_bl))
 pss_nil)))
 (pss_one (ps_ret pe_bl)))), ?_⟩
    obtain ⟨p, rfl, hp⟩ := hx
    have hS : SqT K H p (ns.map V.int) := .inl (.inl hp)
    refine ⟨_, rfl, _, _, _, _, _, rfl, .ty _, .base (.tup hp), kit_ty (by decide +kernel), true, rfl, ?_⟩
    show if false = true then _ else _
    rw [if_neg Bool.false_ne_true]
    refine ⟨_, rfl, _, _, rfl, .inr hS, _, rfl, rfl, _, rfl, ?_⟩
    have el : V.int ((ns.map V.int).length : Int) = V.int (ns.length : Int) := by rw [List.length_map]
    refine iteNS el ?_
    refine ⟨_, rfl, p, rfl, ⟨_, hS⟩, for_tup (K := K) (a := p) (xs := ns.map V.int) (fun i σ H' => H' = H ∧ ∃ z, σ = [some (.ref p), some (.int (ns.length : Int)), z]) ⟨rfl, _, rfl⟩ (fun i σ H' _ ⟨e, _⟩ => by rw [e]; exact hS) ?_ ?_⟩
    · rintro i v σ H' hi ⟨rfl, z, rfl⟩
      obtain ⟨n, rfl⟩ : ∃ n, v = .int n := by
        rw [List.getElem?_map] at hi
        cases e : ns[i]? with
        | none => rw [e] at hi; cases hi
        | some m => rw [e] at hi; exact ⟨m, (Option.some.inj hi).symm⟩
      refine ⟨_, rfl, _, rfl, true, rfl, iteF ?_⟩
      exact ⟨rfl, _, rfl⟩
    · rintro σ H' ⟨rfl, z, rfl⟩
      exact q
def sp_list (K : PySem.W.Frag) : Sp := fun vs H Q _ => ∃ (a : Addr) (xs : List V) (m : Nat), vs = [.ref a, .int (m : Int)] ∧ H a = some (.lst xs) ∧ m ≤ 100 ∧ (∀ x ∈ xs, ∃ ns : List Int, TupAt H x ns ∧ ns.length = m) ∧ Q (.bl true) H
theorem ok__law_list (T : Env K mg) (tb : LamX.TabB base mg (He.cT K bzM).1 (He.cT K bzM).2) (qa : T.a_busiest = He.fAd K bzM) : FnOk P w K mg base CX0 3 T.a__law_list T.fd__law_list ["_law_found", "_law_many_here"] (sp_list K) := by
  refine T.F__law_list.ok sc__law_list (fun vs H Q E h => ?_) (fun cdv A outer s H vs Q E hr h => ?_)
  · obtain ⟨a, xs, m, rfl, _⟩ := h
    rfl
  · obtain ⟨a, xs, m, rfl, hA, hm, hx, q⟩ := h
    refine ⟨_, (pss_cons (ps_if (pt_not (pt_val (pe_callB call_isi (by rfl) T.m_isinstance (by decide +kernel) (pa_cons (pv 0) (pa_cons (pe_bltn (v := .ty "list") (u := .type "list") (by rfl) T.m_list (by decide +kernel) rfl) pa_nil)))))
 (pss_one (ps_ret pe_bl))
 pss_nil)
 (pss_cons (ps_for PassesOwn.never rfl (pi_list (pv 0)) (pg_name (i := 2) sc__law_list.nd rfl (.inl rfl))
 (pss_one (ps_if (pt_not (pt_val (pe_call (ok__law_tuple T tb qa) (hr.mono (by decide)) (by rfl) T.g__law_tuple T.F__law_tuple.kp T.b__law_tuple .nil pass0 (pa_cons (pv 2) (pa_cons (pv 1) pa_nil)))))
 (pss_one (ps_ret pe_bl))
 pss_nil)))
 (pss_one (ps_ret pe_bl)))), ?_⟩
    have hS : SqL K H a xs := .inl (.inl hA)
    refine ⟨_, rfl, _, _, _, _, _, rfl, .ty _, .base (.lst hA), kit_ty (by decide +kernel), true, rfl, iteF ?_⟩
    refine ⟨_, rfl, a, rfl, ⟨_, hS⟩, for_list (K := K) (a := a) (xs := xs) (fun i σ H' => H' = H ∧ ∃ z, σ = [some (.ref a), some (.int (m : Int)), z]) ⟨rfl, _, rfl⟩ (fun i σ H' _ ⟨e, _⟩ => by rw [e]; exact hS) ?_ ?_⟩
    · rintro i x σ H' hi ⟨rfl, z, rfl⟩
      obtain ⟨ns, h1, h2⟩ := hx x (List.mem_of_getElem? hi)
      subst h2
      refine ⟨_, rfl, _, rfl, x, ns, rfl, h1, hm, true, rfl, iteF ?_⟩
      exact ⟨rfl, _, rfl⟩
    · rintro σ H' ⟨rfl, z, rfl⟩
      exact q
theorem PrL.tup2 {H : Hp} {xs : List V} {l : List (Int × Int)} (h : PrL K H xs l) : ∀ x ∈ xs, ∃ ns : List Int, TupAt H x ns ∧ ns.length = 2 := fun x hx => ⟨_, (h.mem x hx).tup, rfl⟩

/-! ### ropes away from a post -/
abbrev awayB (v : Int) (p : Int × Int) : Bool := !decide (v = p.1 ∨ v = p.2)
def awayN (v : Int) (l : List (Int × Int)) : Nat := (l.filter (awayB v)).length
def faceB (n : Int) (l : List (Int × Int)) (v : Int) (p : Int × Int) : Bool := decide (pr p.1 v ∈ tiesS n l) && decide (pr p.2 v ∈ tiesS n l)
theorem perm_ne {l : List (Int × Int)} {p : Int × Int} (hn : l.Nodup) (hp : p ∈ l) : l.Perm (p :: l.filter fun q => decide (q ≠ p)) := by
  refine (List.perm_ext_iff_of_nodup hn ?_).mpr fun q => ?_
  · rw [List.nodup_cons]
    exact ⟨fun h => of_decide_eq_true (List.mem_filter.mp h).2 rfl, hn.filter _⟩
  · rw [List.mem_cons, List.mem_filter, decide_eq_true_eq]
    constructor
    · intro h
      by_cases e : q = p
      · exact .inl e
      · exact .inr ⟨h, e⟩
    · rintro (h | h)
      · rw [h]; exact hp
      · exact h.1
theorem away_turn {n : Int} {l : List (Int × Int)} {p : Int × Int} {x y v : Int} (hc : IsCut n l) (hp : p ∈ l) (h : Turns n l p x y) (ha : awayB v p = true) (hv : v = x ∨ v = y) : awayN v (turnL n l p) + 1 = awayN v l := by
  have e : turnL n l p = sort2 ((l.filter fun q => decide (q ≠ p)) ++ [(x, y)]) := by
    unfold turnL
    rw [h.bes]
  have p1 : (turnL n l p).Perm ((l.filter fun q => decide (q ≠ p)) ++ [(x, y)]) := by rw [e]; exact sort2_perm _
  have p2 := perm_ne hc.nd hp
  unfold awayN
  rw [(p1.filter _).length_eq, (p2.filter _).length_eq, List.filter_append, List.length_append, List.filter_cons_of_pos ha, List.length_cons]
  have : awayB v (x, y) = false := by
    unfold awayB
    rw [decide_eq_true (show v = x ∨ v = y from hv)]; rfl
  rw [List.filter_cons_of_neg (by rw [this]; exact Bool.false_ne_true)]
  rfl
theorem face_spec {n : Int} {l : List (Int × Int)} {p : Int × Int} {x y v : Int} (hc : IsCut n l) (hp : p ∈ l) (h : Turns n l p x y) (hv0 : 0 ≤ v) (hvn : v < n) (hf : faceB n l v p = true) : awayB v p = true ∧ (v = x ∨ v = y) := by
  have lt := cut_lt hc hp
  have hm : v ∈ besL (tiesS n l) n p.1 p.2 := List.mem_filter.mpr ⟨mem_rng.mpr ⟨hv0, hvn⟩, hf⟩
  rw [h.bes] at hm
  simp only [List.mem_cons, List.not_mem_nil, or_false] at hm
  have hcr := h.crs
  refine ⟨?_, hm⟩
  unfold awayB
  rw [decide_eq_false (by omega)]; rfl
theorem no_face {n : Int} {l : List (Int × Int)} {v : Int} (hc : IsCut n l) (hv0 : 0 ≤ v) (hvn : v < n) (hf : ∀ p ∈ l, faceB n l v p = false) : awayN v l = 0 := by
  obtain ⟨T, hT, hR⟩ := hc.ex
  have ht : ∀ a b, (a, b) ∈ tiesS n l ↔ tie 0 (n - 1) T a b := fun a b => sort2_mem.trans (ties_iff hc.three hT hR a b)
  have key := fan_all (v := v) (show inR n v from ⟨hv0, hvn⟩) hT hv0 (by omega) fun a b t n1 na bs => by
    have ti := tie_in hT t
    have hl : (a, b) ∈ l := (hR a b).mpr ⟨t, (by
      rcases Int.lt_or_le (a + 1) b with h | h
      · omega
      · exact absurd (fun z hz hh => by omega) na), n1⟩
    have hb := (bes_iff hT ti.2.1).mp bs
    have := hf _ hl
    unfold faceB at this
    rw [decide_eq_true ((ht _ _).mpr hb.1), decide_eq_true ((ht _ _).mpr hb.2)] at this
    cases this
  unfold awayN
  rw [List.length_eq_zero_iff, List.filter_eq_nil_iff]
  rintro ⟨a, b⟩ hp
  have := (hR a b).mp hp
  have ti := tie_in hT this.1
  have := key a b this.1 this.2.2 (fun q => q (a + 1) ⟨by omega, by omega⟩ (by omega))
  unfold awayB
  rw [decide_eq_true (by dsimp only; omega)]
  exact Bool.false_ne_true
/-- what a road leads to -/
def endL (n : Int) (l : List (Int × Int)) (ps : List (Int × Int)) : List (Int × Int) := ps.foldl (turnL n) l
def RoadOk (n : Int) (l ps : List (Int × Int)) : Prop := ∀ i p, ps[i]? = some p → p ∈ endL n l (ps.take i)
theorem endL_more (n : Int) (l ps : List (Int × Int)) (p : Int × Int) : endL n l (ps ++ [p]) = turnL n (endL n l ps) p := by
  unfold endL
  rw [List.foldl_append]; rfl
theorem RoadOk.nil (n : Int) (l : List (Int × Int)) : RoadOk n l [] := fun i p e => by cases e
theorem RoadOk.more {n : Int} {l ps : List (Int × Int)} {p : Int × Int} (h : RoadOk n l ps) (hp : p ∈ endL n l ps) : RoadOk n l (ps ++ [p]) := by
  intro i q e
  rcases Nat.lt_trichotomy i ps.length with hi | hi | hi
  · rw [List.getElem?_append_left hi] at e
    rw [List.take_append_of_le_length (by omega)]
    exact h i q e
  · subst hi
    rw [List.getElem?_append_right (Nat.le_refl _), Nat.sub_self] at e
    obtain rfl := Option.some.inj e
    rw [List.take_left]
    exact hp
  · rw [List.getElem?_append_right (by omega), List.getElem?_eq_none (by simp; omega)] at e
    cases e

def sp_facing (K : PySem.W.Frag) : Sp := fun vs H Q _ => ∃ (n : Int) (c : Addr) (xs : List V) (l : List (Int × Int)) (v : Int), vs = [.int n, .ref c, .int v] ∧ 3 ≤ n ∧ n ≤ 12 ∧ H c = some (.lst xs) ∧ PrL K H xs l ∧ l.length ≤ 100 ∧
  (∀ p H' u, Same H H' → p ∈ l → faceB n l v p = true → PrAt K H' u p → Q u H') ∧ ((∀ p ∈ l, faceB n l v p = false) → ∀ H', Same H H' → Q .non H')
theorem ok_rope_facing (T : Env K mg) (tb : LamX.TabB base mg (He.cT K bzM).1 (He.cT K bzM).2) (qa : T.a_busiest = He.fAd K bzM) : FnOk P w K mg base CX0 3 T.a_rope_facing T.fd_rope_facing ["n", "cut", "post"] (sp_facing K) := by
  refine T.F_rope_facing.ok sc_rope_facing (fun vs H Q E h => ?_) (fun cdv A outer s H vs Q E hr h => ?_)
  · obtain ⟨n, c, xs, l, v, rfl, _⟩ := h
    rfl
  · obtain ⟨n, c, xs, l, v, rfl, h3, h12, hc, hL, hl, k1, k0⟩ := h
    refine ⟨_, (pss_cons (ps_set (i := 3) sc_rope_facing.nd rfl (.inl rfl) (pe_call (ok_ties T tb qa) (hr.mono (by decide)) (by rfl) T.g_ties T.F_ties.kp T.b_ties .nil pass0 (pa_cons (pv 0) (pa_cons (pv 1) pa_nil))))
 (pss_cons (ps_for PassesOwn.never rfl (pi_list (pv 1)) (pg_tup rfl (pgs_cons (pg_name (i := 4) sc_rope_facing.nd rfl (.inl rfl)) (pgs_cons (pg_name (i := 5) sc_rope_facing.nd rfl (.inl rfl)) pgs_nil)))
 (pss_one (ps_if (PW.pt (pw_and (pt_cmpR (op_in2 (by have h_ := Room.units2 hr; exact h_)) (pe_call (ok_pair_of T tb qa) (hr.mono (by decide)) (by rfl) T.g_pair_of T.F_pair_of.kp T.b_pair_of .nil pass0 (pa_cons (pv 4) (pa_cons (pv 2) pa_nil))) (pv 3) (by rfl)) (pw_and1 (pt_cmpR (op_in2 (by have h_ := Room.units2 hr; exact h_)) (pe_call (ok_pair_of T tb qa) (hr.mono (by decide)) (by rfl) T.g_pair_of T.F_pair_of.kp T.b_pair_of .nil pass0 (pa_cons (pv 5) (pa_cons (pv 2) pa_nil))) (pv 3) (by rfl)))))
 (pss_one (ps_ret (pe_tup (pa_cons (pv 4) (pa_cons (pv 5) pa_nil)))))
 pss_nil)))
 (pss_one (ps_ret pe_non)))), ?_⟩
    have htl := tiesS_len h3 h12 hl
    have hxl := hL.length
    refine ⟨_, rfl, _, rfl, n, c, xs, l, rfl, h3, h12, hc, hL, hl, fun H1 d ys s1 hd hd1 hY => ?_⟩
    refine ⟨_, rfl, c, rfl, ⟨_, .inl (.inl (s1 _ _ hc))⟩, for_list (K := K) (a := c) (xs := xs) (fun i σ H' => Same H1 H' ∧ (∃ y z, σ = [some (.int n), some (.ref c), some (.int v), some (.ref d), y, z]) ∧ ∀ p ∈ l.take i, faceB n l v p = false) ⟨Same.refl _, ⟨_, _, rfl⟩, fun p hp => by rw [List.take_zero] at hp; cases hp⟩ (fun i σ H' _ ⟨e, _⟩ => .inl (.inl (e _ _ (s1 _ _ hc)))) ?_ ?_⟩
    · rintro i x σ H' hi ⟨s3, ⟨y, z, rfl⟩, hn⟩
      obtain ⟨p, hp, t, rfl, ht⟩ := hL.at hi
      have s13 := s1.trans s3
      have hpl : p ∈ l := List.mem_of_getElem? hp
      have more : faceB n l v p = false → ∀ q ∈ l.take (i + 1), faceB n l v q = false := fun h q hq => by
        rw [take_more hp] at hq
        rcases List.mem_append.mp hq with hq | hq
        · exact hn q hq
        · rw [List.mem_singleton.mp hq]; exact h
      refine ⟨t, _, rfl, .inl (.inl (s13 _ _ ht)), rfl, _, _, rfl, _, _, rfl, rfl, ?_⟩
      refine ⟨_, rfl, _, rfl, p.1, v, rfl, fun u hu => ?_⟩
      have s4 : Same H' _ := same_new (o := .tup [.int (pr p.1 v).1, .int (pr p.1 v).2]) hu
      have hu2 : (upd H' u (.tup [.int (pr p.1 v).1, .int (pr p.1 v).2])) u = some (.tup [.int (pr p.1 v).1, .int (pr p.1 v).2]) := upd_same
      generalize upd H' u (.tup [.int (pr p.1 v).1, .int (pr p.1 v).2]) = H4 at *
      refine ⟨_, rfl, pr p.1 v, d, ys, _, ⟨u, rfl, hu2⟩, rfl, .inl (.inl (s4 _ _ (s3 _ _ hd1))), hY.mono (s3.trans s4), htl, _, rfl, ite2 (fun hx => ?_) (fun hx => ?_)⟩
      · have hx : decide (pr p.1 v ∈ tiesS n l) = true := hx
        refine ⟨_, rfl, _, rfl, p.2, v, rfl, fun u' hu' => ?_⟩
        have s5 : Same H4 _ := same_new (o := .tup [.int (pr p.2 v).1, .int (pr p.2 v).2]) hu'
        have hu3 : (upd H4 u' (.tup [.int (pr p.2 v).1, .int (pr p.2 v).2])) u' = some (.tup [.int (pr p.2 v).1, .int (pr p.2 v).2]) := upd_same
        generalize upd H4 u' (.tup [.int (pr p.2 v).1, .int (pr p.2 v).2]) = H5 at *
        have s45 := s4.trans s5
        refine ⟨_, rfl, pr p.2 v, d, ys, _, ⟨u', rfl, hu3⟩, rfl, .inl (.inl (s45 _ _ (s3 _ _ hd1))), hY.mono (s3.trans s45), htl, _, rfl, ite2 (fun hy => ?_) (fun hy => ?_)⟩
        · have hy : decide (pr p.2 v ∈ tiesS n l) = true := hy
          have hf : faceB n l v p = true := by unfold faceB; rw [hx, hy]; rfl
          refine ⟨_, rfl, _, rfl, small200 (by show 2 ≤ 200; decide), fun g hg => ?_⟩
          exact k1 p _ _ ((s13.trans s45).trans (same_new hg)) hpl hf ⟨g, rfl, upd_same⟩
        · have hy : ¬ decide (pr p.2 v ∈ tiesS n l) = true := hy
          have hf : faceB n l v p = false := by unfold faceB; rw [Bool.eq_false_iff.mpr hy, Bool.and_false]
          exact ⟨s3.trans s45, ⟨_, _, rfl⟩, more hf⟩
      · have hx : ¬ decide (pr p.1 v ∈ tiesS n l) = true := hx
        have hf : faceB n l v p = false := by unfold faceB; rw [Bool.eq_false_iff.mpr hx, Bool.false_and]
        exact ⟨s3.trans s4, ⟨_, _, rfl⟩, more hf⟩
    · rintro σ H' ⟨s3, ⟨y, z, rfl⟩, hn⟩
      rw [List.take_of_length_le (by omega)] at hn
      exact k0 hn H' (s1.trans s3)
abbrev PP := (Int × Int) × (Int × Int)
structure Walked (n : Int) (l : List (Int × Int)) (ts : List PP) (m : List (Int × Int)) : Prop where
  fin : endL n l (ts.map (·.1)) = m
  ok : RoadOk n l (ts.map (·.1))
  news : ∀ i t, ts[i]? = some t → Turns n (endL n l ((ts.map (·.1)).take i)) t.1 t.2.1 t.2.2
  isC : IsCut n m
  srt : m.Pairwise le2
  len : m.length = l.length
theorem Walked.nil {n : Int} {l : List (Int × Int)} (h : IsCut n l) (hs : l.Pairwise le2) : Walked n l [] l := ⟨rfl, RoadOk.nil n l, fun i t e => (by cases e), h, hs, rfl⟩
theorem Walked.more {n : Int} {l m : List (Int × Int)} {ts : List PP} {p : Int × Int} {x y : Int} (h : Walked n l ts m) (hp : p ∈ m) (hT : Turns n m p x y) : Walked n l (ts ++ [(p, (x, y))]) (turnL n m p) := by
  refine ⟨?_, ?_, ?_, hT.isC, hT.srt, hT.len.trans h.len⟩
  · rw [List.map_append, List.map_singleton, endL_more, h.fin]
  · rw [List.map_append, List.map_singleton]
    exact h.ok.more (by rw [h.fin]; exact hp)
  · intro i t e
    rcases Nat.lt_trichotomy i ts.length with hi | hi | hi
    · rw [List.getElem?_append_left hi] at e
      rw [List.map_append, List.take_append_of_le_length (by rw [List.length_map]; omega)]
      exact h.news i t e
    · subst hi
      rw [List.getElem?_append_right (Nat.le_refl _), Nat.sub_self] at e
      obtain rfl := Option.some.inj e
      rw [List.map_append, List.take_left' (by rw [List.length_map]), h.fin]
      exact hT
    · rw [List.getElem?_append_right (by omega), List.getElem?_eq_none (by simp; omega)] at e
      cases e
def TwAt (K : PySem.W.Frag) (H : Hp) (x : V) (t : PP) : Prop := ∃ a u v, x = V.ref a ∧ H a = some (.tup [u, v]) ∧ PrAt K H u t.1 ∧ PrAt K H v t.2
abbrev TwL (K : PySem.W.Frag) (H : Hp) (xs : List V) (l : List PP) : Prop := All2 (TwAt K H) xs l
theorem PrAt.tups {H H' : Hp} {x : V} {p : Int × Int} (s : TupS H H') (h : PrAt K H x p) : PrAt K H' x p := by
  obtain ⟨t, e, ht⟩ := h
  exact ⟨t, e, s _ _ ht⟩
theorem TwL.tups {H H' : Hp} {xs : List V} {l : List PP} (s : TupS H H') (h : TwL K H xs l) : TwL K H' xs l := All2.mono h fun _ _ ⟨a, u, v, e, ha, hu, hv⟩ => ⟨a, u, v, e, s _ _ ha, hu.tups s, hv.tups s⟩
def sp_fant (K : PySem.W.Frag) : Sp := fun vs H Q _ => ∃ (n : Int) (c : Addr) (xs : List V) (l : List (Int × Int)) (v : Int), vs = [.int n, .ref c, .int v] ∧ 3 ≤ n ∧ n ≤ 12 ∧ 0 ≤ v ∧ v < n ∧ H c = some (.lst xs) ∧ PrL K H xs l ∧ l.length ≤ 100 ∧ IsCut n l ∧ l.Pairwise le2 ∧
  ∀ H' q zs ts m, Same H H' → H q = none → H' q = some (.lst zs) → TwL K H' zs ts → Walked n l ts m → awayN v m = 0 → ts.length = awayN v l → Q (.ref q) H'
def fanW (K : PySem.W.Frag) (n : Int) (v : Int) (l : List (Int × Int)) (D : Addr) (H : Hp) : Nat → L2.St → Hp → Prop := fun k σ H' => ∃ (c : Addr) (u : V) (y z : Option V) (xs zs : List V) (ts : List PP) (m : List (Int × Int)),
  σ = [some (.int n), some (.ref c), some (.int v), some (.ref D), some u, y, z] ∧ Same H H' ∧ H' D = some (.lst zs) ∧ c ≠ D ∧ TwL K H' zs ts ∧ H' c = some (.lst xs) ∧ PrL K H' xs m ∧ Walked n l ts m ∧ k = awayN v m ∧ ts.length + k = awayN v l ∧
  ((u = .non ∧ k = 0) ∨ ∃ p, p ∈ m ∧ PrAt K H' u p ∧ faceB n m v p = true)
theorem away_le (v : Int) (l : List (Int × Int)) : awayN v l ≤ l.length := List.length_filter_le _ _
theorem ok_fan_turnings (T : Env K mg) (tb : LamX.TabB base mg (He.cT K bzM).1 (He.cT K bzM).2) (qa : T.a_busiest = He.fAd K bzM) : FnOk P w K mg base CX0 6 T.a_fan_turnings T.fd_fan_turnings ["n", "cut", "post"] (sp_fant K) := by
  refine T.F_fan_turnings.ok sc_fan_turnings (fun vs H Q E h => ?_) (fun cdv A outer s H vs Q E hr h => ?_)
  · obtain ⟨n, c, xs, l, v, rfl, _⟩ := h
    rfl
  · obtain ⟨n, c, xs, l, v, rfl, h3, h12, hv0, hvn, hc, hL, hl, hC, hs, q⟩ := h
    refine ⟨_, (pss_cons (ps_set (i := 3) sc_fan_turnings.nd rfl (.inl rfl) (pe_lst pa_nil))
 (C8.pss_cut (ps_set (i := 4) sc_fan_turnings.nd rfl (.inl rfl) (pe_call (ok_rope_facing T tb qa) (hr.mono (by decide)) (by rfl) T.g_rope_facing T.F_rope_facing.kp T.b_rope_facing .nil pass0 (pa_cons (pv 0) (pa_cons (pv 1) (pa_cons (pv 2) pa_nil)))))
 (pss_cons (ps_while PassesOwn.never (pt_cmpR op_notN (pv 4) pe_non (nomark _))
 (pss_cons (ps_asg (pv 4) (pg_tup rfl (pgs_cons (pg_name (i := 5) sc_fan_turnings.nd rfl (.inl rfl)) (pgs_cons (pg_name (i := 6) sc_fan_turnings.nd rfl (.inl rfl)) pgs_nil))))
 (pss_cons (ps_expr (pe_bm PySem.F.plainAttrs_list PySem.F.slot_list_append PySem.F.type_list_append mt_append (pv 3) (pa_cons (pe_tup (pa_cons (pv 4) (pa_cons (pe_call (ok_new_rope T tb qa) (hr.mono (by decide)) (by rfl) T.g_new_rope T.F_new_rope.kp T.b_new_rope .nil passL (pa_cons (pv 0) (pa_cons (pv 1) (pa_cons (pv 5) (pa_cons (pv 6) pa_nil))))) pa_nil))) pa_nil)))
 (pss_cons (ps_set (i := 1) sc_fan_turnings.nd rfl (.inl rfl) (pe_call (ok_turned T tb qa) (hr.mono (by decide)) (by rfl) T.g_turned T.F_turned.kp T.b_turned .nil passL (pa_cons (pv 0) (pa_cons (pv 1) (pa_cons (pv 5) (pa_cons (pv 6) pa_nil))))))
 (pss_one (ps_set (i := 4) sc_fan_turnings.nd rfl (.inl rfl) (pe_call (ok_rope_facing T tb qa) (hr.mono (by decide)) (by rfl) T.g_rope_facing T.F_rope_facing.kp T.b_rope_facing .nil pass0 (pa_cons (pv 0) (pa_cons (pv 1) (pa_cons (pv 2) pa_nil))))))))))
 (pss_one (ps_ret (pv 3)))))), ?_⟩
    refine ⟨Nat.zero_le _, fun D hD => ?_⟩
    have s1 : Same H _ := same_new (o := .lst []) hD
    have hD1 : (upd H D (.lst [])) D = some (.lst []) := upd_same
    generalize upd H D (.lst []) = H1 at *
    have mid : ∀ u H', Same H1 H' → ((u = .non ∧ awayN v l = 0) ∨ ∃ p, p ∈ l ∧ PrAt K H' u p ∧ faceB n l v p = true) → fanW K n v l D H (awayN v l) [some (.int n), some (.ref c), some (.int v), some (.ref D), some u, none, none] H' :=
      fun u H' s2 hu => ⟨c, u, none, none, xs, [], [], l, rfl, s1.trans s2, s2 _ _ hD1, ne_of_none hc hD, .nil, s2 _ _ (s1 _ _ hc), hL.mono (s1.trans s2), Walked.nil hC hs, rfl, by rw [List.length_nil, Nat.zero_add], hu⟩
    refine ⟨fun σ' H' => fanW K n v l D H (awayN v l) σ' H', ?_, ?_⟩
    · refine ⟨_, rfl, _, rfl, _, rfl, n, c, xs, l, v, rfl, h3, h12, s1 _ _ hc, hL.mono s1, hl, ?_, ?_⟩
      · intro p H' u s2 hp hf hu
        exact mid u H' s2 (.inr ⟨p, hp, hu, hf⟩)
      · intro hno H' s2
        exact mid .non H' s2 (.inl ⟨rfl, no_face hC hv0 hvn hno⟩)
    intro σ0 H0 w0
    refine ⟨fanW K n v l D H, ⟨_, w0⟩, ?_⟩
    rintro k σ H' ⟨c, u, y, z, xs, zs, ts, m, rfl, s2, hDz, hcD, hZ, hc, hL, hW, rfl, hcnt, hu⟩
    refine ⟨_, rfl, rfl, _, rfl, ?_⟩
    have hawl := away_le v l
    rcases hu with ⟨rfl, h0⟩ | ⟨p, hp, ⟨t, rfl, ht⟩, hf⟩
    · show if (!decide (V.non = V.non)) = true then _ else _
      rw [decide_eq_true rfl]
      refine iteF ?_
      exact ⟨_, rfl, q H' D zs ts m s2 hD hDz hZ hW h0 (by omega)⟩
    · show if (!decide (V.ref t = V.non)) = true then _ else _
      rw [decide_eq_false (fun z => nomatch z)]
      refine iteT ?_
      refine ⟨fun σ' H2 => ∃ k', k' < awayN v m ∧ fanW K n v l D H k' σ' H2, fun _ _ h => h, ?_⟩
      have hC := hW.isC
      have lt := cut_lt hC hp
      have epr : pr p.1 p.2 = p := pr_of_lt (by omega)
      have hml := hW.len
      obtain ⟨x, y', hT⟩ := turns hC hp
      have fs := face_spec hC hp hT hv0 hvn hf
      have hlow := away_turn hC hp hT fs.1 fs.2
      have hzl := hZ.length
      refine ⟨_, rfl, t, _, rfl, .inl (.inl ht), rfl, _, _, rfl, _, _, rfl, rfl, ?_⟩
      refine ⟨_, rfl, .inl ⟨rfl, _, .inl (.inl hDz)⟩, ?_⟩
      refine ⟨_, rfl, _, rfl, _, rfl, _, rfl, _, rfl, n, c, xs, m, p.1, p.2, rfl, h3, h12, hc, hL, by omega, hC, fun hn => absurd hp (by rw [epr] at hn; exact hn), fun hm x1 y1 hT1 H3 u2 s3 nu hu => ?_⟩
      rw [epr] at hT1
      have e2 : x1 = x ∧ y1 = y' := by
        have := hT1.bes.symm.trans hT.bes
        exact ⟨(List.cons.inj this).1, (List.cons.inj (List.cons.inj this).2).1⟩
      obtain ⟨e2, e3⟩ := e2
      subst e2; subst e3
      refine ⟨small200 (by show 2 ≤ 200; decide), fun tt htt => ?_⟩
      have s4 : Same H3 _ := same_new (o := .tup [.ref t, .ref u2]) htt
      have htt2 : (upd H3 tt (.tup [.ref t, .ref u2])) tt = some (.tup [.ref t, .ref u2]) := upd_same
      generalize upd H3 tt (.tup [.ref t, .ref u2]) = H4 at *
      have s34 := s3.trans s4
      refine ⟨D, zs, _, rfl, rfl, s34 _ _ hDz, small200' (by omega), ?_⟩
      have ts5 := TupS.put (o := .lst (zs ++ [.ref tt])) (s34 _ _ hDz)
      have hZ5 : TwL K (upd H4 D (.lst (zs ++ [.ref tt]))) (zs ++ [.ref tt]) (ts ++ [(p, (x1, y1))]) :=
        (hZ.tups ((TupS.of s34).trans ts5)).app (.one ⟨tt, .ref t, .ref u2, rfl, ts5 _ _ htt2, ⟨t, rfl, ts5 _ _ (s34 _ _ ht)⟩, ⟨u2, rfl, ts5 _ _ (s4 _ _ hu)⟩⟩)
      have hc5 : (upd H4 D (.lst (zs ++ [.ref tt]))) c = some (.lst xs) := by rw [upd_ne hcD]; exact s34 _ _ hc
      have hL5 := (hL.mono s34).tups ts5
      have s5 : Same H (upd H4 D (.lst (zs ++ [.ref tt]))) := fun b o e => by
        rw [upd_ne (ne_of_none e hD)]
        exact s34 _ _ (s2 _ _ e)
      have hD5 : (upd H4 D (.lst (zs ++ [.ref tt]))) D = some (.lst (zs ++ [.ref tt])) := upd_same
      generalize upd H4 D (.lst (zs ++ [.ref tt])) = H5 at *
      refine ⟨_, rfl, _, rfl, _, rfl, _, rfl, n, c, xs, m, p.1, p.2, rfl, h3, h12, hc5, hL5, by omega, hC, fun hn => absurd hp (by rw [epr] at hn; exact hn), fun _ H6 g ys s6 ng hg hY => ?_⟩
      rw [epr] at hY
      have hW6 := hW.more hp hT
      have hl6 := hT.len
      have fin : ∀ u H', Same H6 H' → ((u = .non ∧ awayN v (turnL n m p) = 0) ∨ ∃ p', p' ∈ turnL n m p ∧ PrAt K H' u p' ∧ faceB n (turnL n m p) v p' = true) →
          ∃ k', k' < awayN v m ∧ fanW K n v l D H k' [some (.int n), some (.ref g), some (.int v), some (.ref D), some u, some (.int p.1), some (.int p.2)] H' := fun u H' s7 hu =>
        ⟨awayN v (turnL n m p), by omega, g, u, _, _, ys, _, _, _, rfl, (s5.trans s6).trans s7, s7 _ _ (s6 _ _ hD5), (ne_of_none hD5 ng).symm, (hZ5.tups (TupS.of (s6.trans s7))), s7 _ _ hg, hY.mono s7, hW6, rfl, by rw [List.length_append, List.length_singleton]; omega, hu⟩
      refine ⟨_, rfl, _, rfl, _, rfl, n, g, ys, _, v, rfl, h3, h12, hg, hY, by omega, ?_, ?_⟩
      · intro p' H' u s7 hp' hf' hu'
        exact fin u H' s7 (.inr ⟨p', hp', hu', hf'⟩)
      · intro hno H' s7
        exact fin .non H' s7 (.inl ⟨rfl, no_face hT.isC hv0 hvn hno⟩)

theorem pi_listK {X : Cx} {tg l : Expr} {tl : TE} (hK : X.K = K) (hl : PE X l tl) : PI X tg l (iList K tl) := by
  subst hK
  exact pi_list hl
theorem pg_tupK {X : Cx} {pos : Pos} {es : List Expr} {k : Nat} {t : TGs} {n : Nat} (hK : X.K = K) (hc : X.calm = true) (h : PGs X es t)
    (hn : (assignEach es X.env).length = n := by rfl) (hst : (assignEach es X.env).findIdx? (·.1) = none := by rfl) : PG X (.Tuple es k pos) (gTup K n t) := by
  subst hK
  exact pg_tup hc h hn hst

def sp_lbeside (K : PySem.W.Frag) : Sp := fun vs H Q _ => ∃ (n : Int) (c : Addr) (xs : List V) (t : List (Int × Int)) (a b : Int), vs = [.int n, .ref c, .int a, .int b] ∧ 3 ≤ n ∧ n ≤ 12 ∧ H c = some (.lst xs) ∧ PrL K H xs t ∧ t.length ≤ 200 ∧
  ∀ H' q, Same H H' → H q = none → H' q = some (.lst ((besL t n a b).map V.int)) → Q (.ref q) H'
theorem ok__law_beside (T : Env K mg) (tb : LamX.TabB base mg (He.cT K bzM).1 (He.cT K bzM).2) (qa : T.a_busiest = He.fAd K bzM) : FnOk P w K mg base CX0 2 T.a__law_beside T.fd__law_beside ["_law_n", "_law_all_ties", "_law_a", "_law_b"] (sp_lbeside K) := by
  refine T.F__law_beside.ok sc__law_beside (fun vs H Q E h => ?_) (fun cdv A outer s H vs Q E hr h => ?_)
  · obtain ⟨n, c, xs, t, a, b, rfl, _⟩ := h
    rfl
  · obtain ⟨n, c, xs, t, a, b, rfl, h3, h12, hc, hL, hl, k1⟩ := h
    refine ⟨_, (pss_cons (ps_set (i := 4) sc__law_beside.nd rfl (.inl rfl) (pe_lst pa_nil))
 (pss_cons (ps_for PassesOwn.never rfl (pi_range1 (by rfl) T.m_range (pa_cons (pv 0) pa_nil)) (pg_name (i := 5) sc__law_beside.nd rfl (.inl rfl))
 (pss_one (ps_if (PW.pt (pw_and (pt_cmpR (op_in2 (by have h_ := Room.units2 hr; exact h_)) (pe_call (ok__law_pair T tb qa) (hr.mono (by decide)) (by rfl) T.g__law_pair T.F__law_pair.kp T.b__law_pair .nil pass0 (pa_cons (pv 2) (pa_cons (pv 5) pa_nil))) (pv 1) (by rfl)) (pw_and1 (pt_cmpR (op_in2 (by have h_ := Room.units2 hr; exact h_)) (pe_call (ok__law_pair T tb qa) (hr.mono (by decide)) (by rfl) T.g__law_pair T.F__law_pair.kp T.b__law_pair .nil pass0 (pa_cons (pv 3) (pa_cons (pv 5) pa_nil))) (pv 1) (by rfl)))))
 (pss_one (ps_expr (pe_bm PySem.F.plainAttrs_list PySem.F.slot_list_append PySem.F.type_list_append mt_append (pv 4) (pa_cons (pv 5) pa_nil))))
 pss_nil)))
 (pss_one (ps_ret (pv 4))))), ?_⟩
    refine ⟨Nat.zero_le _, fun D hD => ?_⟩
    have s1 : Same H _ := same_new (o := .lst []) hD
    refine ⟨_, rfl, n, rfl, by omega, by omega, for_range (lo := 0) (n := n.toNat) (fun i σ H' => ∃ z, σ = [some (.int n), some (.ref c), some (.int a), some (.int b), some (.ref D), z] ∧ Same H H' ∧ H' D = some (.lst ((((rng n).take i).filter fun p => decide (pr a p ∈ t) && decide (pr b p ∈ t)).map V.int))) ⟨_, rfl, s1, upd_same⟩ ?_ ?_⟩
    · rintro i σ H' hi ⟨z, rfl, s3, hz⟩
      have hfl : (((rng n).take i).filter fun p => decide (pr a p ∈ t) && decide (pr b p ∈ t)).length ≤ i := Nat.le_trans (List.length_filter_le _ _) (by rw [List.length_take]; omega)
      have yes : ∀ {H3 : Hp}, (decide (pr a (i : Int) ∈ t) && decide (pr b (i : Int) ∈ t)) = true → Same H' H3 →
          (Same H (upd H3 D (.lst ((((rng n).take i).filter fun p => decide (pr a p ∈ t) && decide (pr b p ∈ t)).map V.int ++ [.int (0 + (i : Int))]))) ∧ (upd H3 D (.lst ((((rng n).take i).filter fun p => decide (pr a p ∈ t) && decide (pr b p ∈ t)).map V.int ++ [.int (0 + (i : Int))]))) D = some (.lst ((((rng n).take (i + 1)).filter fun p => decide (pr a p ∈ t) && decide (pr b p ∈ t)).map V.int))) := by
        intro H3 hc s4
        rw [rng_more n i hi, filter_more, hc, if_pos rfl]
        refine ⟨?_, ?_⟩
        · intro b' o eb
          rw [upd_ne (ne_of_none eb hD)]
          exact s4 _ _ (s3 _ _ eb)
        · rw [upd_same, List.map_append, Int.zero_add]; rfl
      have no : ∀ {H3 : Hp}, (decide (pr a (i : Int) ∈ t) && decide (pr b (i : Int) ∈ t)) = false → Same H' H3 →
          (Same H H3 ∧ H3 D = some (.lst ((((rng n).take (i + 1)).filter fun p => decide (pr a p ∈ t) && decide (pr b p ∈ t)).map V.int))) := by
        intro H3 hc s4
        rw [rng_more n i hi, filter_more, hc, if_neg Bool.false_ne_true, List.append_nil]
        exact ⟨s3.trans s4, s4 _ _ hz⟩
      refine ⟨_, rfl, _, rfl, a, 0 + (i : Int), rfl, fun u hu => ?_⟩
      have s4 : Same H' _ := same_new (o := .tup [.int (pr a (0 + (i : Int))).1, .int (pr a (0 + (i : Int))).2]) hu
      have hu2 : (upd H' u (.tup [.int (pr a (0 + (i : Int))).1, .int (pr a (0 + (i : Int))).2])) u = some (.tup [.int (pr a (0 + (i : Int))).1, .int (pr a (0 + (i : Int))).2]) := upd_same
      generalize upd H' u (.tup [.int (pr a (0 + (i : Int))).1, .int (pr a (0 + (i : Int))).2]) = H4 at *
      rw [Int.zero_add] at hu2
      refine ⟨_, rfl, pr a (i : Int), c, xs, _, ⟨u, rfl, hu2⟩, rfl, .inl (.inl (s4 _ _ (s3 _ _ hc))), hL.mono (s3.trans s4), hl, _, rfl, ?_⟩
      refine ite2 (fun hx => ?_) (fun hx => ?_)
      · have hx : decide (pr a (i : Int) ∈ t) = true := hx
        refine ⟨_, rfl, _, rfl, b, 0 + (i : Int), rfl, fun u' hu' => ?_⟩
        have s5 : Same H4 _ := same_new (o := .tup [.int (pr b (0 + (i : Int))).1, .int (pr b (0 + (i : Int))).2]) hu'
        have hu3 : (upd H4 u' (.tup [.int (pr b (0 + (i : Int))).1, .int (pr b (0 + (i : Int))).2])) u' = some (.tup [.int (pr b (0 + (i : Int))).1, .int (pr b (0 + (i : Int))).2]) := upd_same
        generalize upd H4 u' (.tup [.int (pr b (0 + (i : Int))).1, .int (pr b (0 + (i : Int))).2]) = H5 at *
        rw [Int.zero_add] at hu3
        have s45 := s4.trans s5
        refine ⟨_, rfl, pr b (i : Int), c, xs, _, ⟨u', rfl, hu3⟩, rfl, .inl (.inl (s45 _ _ (s3 _ _ hc))), hL.mono (s3.trans s45), hl, _, rfl, ?_⟩
        refine ite2 (fun hy => ?_) (fun hy => ?_)
        · have hy : decide (pr b (i : Int) ∈ t) = true := hy
          have hDH5 := s45 _ _ hz
          refine ⟨_, rfl, .inl ⟨rfl, _, .inl (.inl hDH5)⟩, _, rfl, D, _, _, rfl, rfl, hDH5, small200' (by rw [List.length_map]; omega), ?_⟩
          exact ⟨_, rfl, yes (by rw [hx, hy]; rfl) s45⟩
        · have hy : ¬ decide (pr b (i : Int) ∈ t) = true := hy
          exact ⟨_, rfl, no (by rw [hx, Bool.eq_false_iff.mpr hy]; rfl) s45⟩
      · have hx : ¬ decide (pr a (i : Int) ∈ t) = true := hx
        exact ⟨_, rfl, no (by rw [Bool.eq_false_iff.mpr hx, Bool.false_and]) s4⟩
    · rintro σ H' ⟨z, rfl, s3, hz⟩
      rw [List.take_of_length_le (by rw [rng_len]; exact Nat.le_refl _)] at hz
      exact ⟨_, rfl, k1 H' D s3 hD hz⟩

def sp_lturned (K : PySem.W.Frag) : Sp := fun vs H Q _ => ∃ (n : Int) (c : Addr) (r : V) (xs : List V) (l : List (Int × Int)) (p : Int × Int), vs = [.int n, .ref c, r] ∧ 3 ≤ n ∧ n ≤ 12 ∧ H c = some (.lst xs) ∧ PrL K H xs l ∧ PrAt K H r p ∧ l.length ≤ 100 ∧ IsCut n l ∧ p ∈ l ∧
  ∀ H' q ys, Same H H' → H q = none → H' q = some (.lst ys) → PrL K H' ys (turnL n l p) → Q (.ref q) H'
theorem ok__law_turned (T : Env K mg) (tb : LamX.TabB base mg (He.cT K bzM).1 (He.cT K bzM).2) (qa : T.a_busiest = He.fAd K bzM) : FnOk P w K mg base CX0 3 T.a__law_turned T.fd__law_turned ["_law_n", "_law_cut", "_law_rope"] (sp_lturned K) := by
  refine T.F__law_turned.ok sc__law_turned (fun vs H Q E h => ?_) (fun cdv A outer s H vs Q E hr h => ?_)
  · obtain ⟨n, c, r, xs, l, p, rfl, _⟩ := h
    rfl
  · obtain ⟨n, c, r, xs, l, p, rfl, h3, h12, hc, hL, hr', hl, hC, hp, k1⟩ := h
    refine ⟨_, (pss_cons (ps_set (i := 3) sc__law_turned.nd rfl (.inl rfl) (pe_call (ok__law_beside T tb qa) (hr.mono (by decide)) (by rfl) T.g__law_beside T.F__law_beside.kp T.b__law_beside .nil pass0 (pa_cons (pv 0) (pa_cons (pe_call (ok__law_ties T tb qa) (hr.mono (by decide)) (by rfl) T.g__law_ties T.F__law_ties.kp T.b__law_ties .nil pass0 (pa_cons (pv 0) (pa_cons (pv 1) pa_nil))) (pa_cons (pe_ix ix_tup (pv 2) pe_int (fun _ _ => rfl)) (pa_cons (pe_ix ix_tup (pv 2) pe_int (fun _ _ => rfl)) pa_nil))))))
 (pss_one (ps_ret (pe_callB cr_sort2 (by rfl) T.m_sorted (by decide +kernel) (pa_cons (pe_op op_cat (pe_lc (own := [("_law_one", 4)]) (by rfl) sc__law_turned.nd (pi_list (pv 1)) (blkOk_by (own := [("_law_one", 4)]) (N := ["_law_n", "_law_cut", "_law_rope", "_law_ends", "_law_one"]) (sc := defScope s__law_turned) (by decide +kernel)) (fun _ _ _ _ _ => (pg_name (i := 4) sc__law_turned.nd rfl (.inl rfl))) (fun _ _ _ _ _ => (pts_one (pt_cmpR (r := rEqP2 K true) (op_neP2 (by have h_ := hr.units; exact h_)) (pv 4) (pv 2) (nomark _)))) (fun _ _ _ _ _ => (pv 4))) (pe_lst (pa_cons (pe_tup (pa_cons (pe_ix ix_list (pv 3) pe_int (fun _ _ => rfl)) (pa_cons (pe_ix ix_list (pv 3) pe_int (fun _ _ => rfl)) pa_nil))) pa_nil))) pa_nil))))), ?_⟩
    obtain ⟨x, y, hT⟩ := turns hC hp
    obtain ⟨t, rfl, ht⟩ := hr'
    have htl := tiesS_len h3 h12 hl
    have hxl := hL.length
    refine ⟨_, rfl, _, rfl, _, rfl, n, c, xs, l, rfl, h3, h12, hc, hL, hl, fun H1 d zs s1 nd hd hZ => ?_⟩
    have hT1 : SqT K H1 t [.int p.1, .int p.2] := .inl (.inl (s1 _ _ ht))
    refine ⟨_, rfl, t, _, _, _, rfl, rfl, hT1, atI_nat (j := 0) rfl, _, rfl, t, _, _, _, rfl, rfl, hT1, atI_nat (j := 1) rfl, n, d, zs, _, p.1, p.2, rfl, h3, h12, hd, hZ, htl, fun H2 e s2 ne he => ?_⟩
    rw [hT.bes] at he
    have s12 := s1.trans s2
    have hE : SqL K H2 e [.int x, .int y] := .inl (.inl he)
    refine ⟨_, rfl, c, rfl, ⟨_, .inl (.inl (s12 _ _ hc))⟩, fun D hD => ?_⟩
    refine lc_list (K := K) (a := c) (xs := xs) (fun i H' => ∃ ws, Same H2 H' ∧ H' D = some (.lst ws) ∧ PrL K H' ws ((l.take i).filter fun q => decide (q ≠ p))) ⟨[], same_new hD, upd_same, by rw [List.take_zero]; exact .nil⟩ ?_ ?_ ?_
    · rintro i H' _ ⟨ws, s3, _, _⟩
      exact .inl (.inl (s3 _ _ (s12 _ _ hc)))
    · rintro i x' H' hi ⟨ws, s3, hz, hW⟩
      obtain ⟨q', hq', hx⟩ := hL.at hi
      have hx' := hx.mono (s12.trans s3)
      have hil : i < l.length := (List.getElem?_eq_some_iff.mp hq').1
      have hzl := hW.length
      have hfl : ((l.take i).filter fun q => decide (q ≠ p)).length ≤ i := Nat.le_trans (List.length_filter_le _ _) (by rw [List.length_take]; omega)
      refine ⟨rfl, _, rfl, _, rfl, q', p, hx', ⟨t, rfl, s3 _ _ (s12 _ _ ht)⟩, _, rfl, ?_⟩
      show if (!decide (q' = p)) = true then _ else _
      rw [take_more hq', filter_more]
      by_cases e : q' = p
      · rw [decide_eq_true e]
        refine iteF ?_
        rw [if_neg (by simp [e]), List.append_nil]
        exact ⟨ws, s3, hz, hW⟩
      · rw [decide_eq_false e]
        refine iteT ?_
        rw [if_pos (by simpa using e)]
        refine ⟨_, rfl, ws, hz, small200' (by omega), ws ++ [x'], ?_, upd_same, ?_⟩
        · intro b' o eb
          rw [upd_ne (ne_of_none eb hD)]
          exact s3 _ _ eb
        · have ts := TupS.put (o := .lst (ws ++ [x'])) hz
          exact (hW.tups ts).app (.one (hx'.tups ts))
    · rintro H' ⟨ws, s3, hz, hW⟩
      rw [List.take_of_length_le (by omega)] at hW
      have hzl := hW.length
      have hfl : (l.filter fun q => decide (q ≠ p)).length ≤ l.length := List.length_filter_le _ _
      have hE' : SqL K H' e [.int x, .int y] := s3.seq hE
      refine ⟨_, rfl, e, _, _, _, rfl, rfl, hE', atI_nat (j := 0) rfl, _, rfl, e, _, _, _, rfl, rfl, hE', atI_nat (j := 1) rfl, small200 (by show 2 ≤ 200; decide), fun u hu => ?_⟩
      have s4 : Same H' _ := same_new (o := .tup [.int x, .int y]) hu
      have hu2 : (upd H' u (.tup [.int x, .int y])) u = some (.tup [.int x, .int y]) := upd_same
      generalize upd H' u (.tup [.int x, .int y]) = H3 at *
      refine ⟨small200 (by show 1 ≤ 200; decide), fun v hv => ?_⟩
      have s5 : Same H3 _ := same_new (o := .lst [.ref u]) hv
      have hv2 : (upd H3 v (.lst [.ref u])) v = some (.lst [.ref u]) := upd_same
      generalize upd H3 v (.lst [.ref u]) = H4 at *
      refine ⟨D, v, ws, [.ref u], rfl, rfl, s5 _ _ (s4 _ _ hz), hv2, small200 (by show ws.length + 1 ≤ 200; omega), fun r hr2 => ?_⟩
      have s6 : Same H4 _ := same_new (o := .lst (ws ++ [.ref u])) hr2
      have hr3 : (upd H4 r (.lst (ws ++ [.ref u]))) r = some (.lst (ws ++ [.ref u])) := upd_same
      generalize upd H4 r (.lst (ws ++ [.ref u])) = H5 at *
      have s46 := (s4.trans s5).trans s6
      have s16 := (s12.trans s3).trans s46
      have hZ5 : PrL K H5 (ws ++ [.ref u]) ((l.filter fun q => decide (q ≠ p)) ++ [(x, y)]) := (hW.mono s46).app (.one ⟨u, rfl, (s5.trans s6) _ _ hu2⟩)
      refine ⟨r, _, _, rfl, .inl (.inl hr3), hZ5, fun ys g hY hg => ?_⟩
      have e : turnL n l p = sort2 ((l.filter fun q => decide (q ≠ p)) ++ [(x, y)]) := by
        unfold turnL
        rw [hT.bes]
      rw [← e] at hY
      have s7 : Same H5 _ := same_new (o := .lst ys) hg
      exact k1 _ g ys (s16.trans s7) (none_back s16 hg) upd_same (hY.mono s7)

/-! ### one fan for each post -/
theorem perm_of_sub {α : Type} [BEq α] [LawfulBEq α] : ∀ (l m : List α), l.Nodup → (∀ x ∈ l, x ∈ m) → m.length ≤ l.length → m.Perm l
  | [], m, _, _, h => by
    have : m = [] := List.length_eq_zero_iff.mp (Nat.le_zero.mp h)
    rw [this]
  | x :: l, m, hn, hs, h => by
    have hx : x ∈ m := hs x (by simp)
    have hnx := List.nodup_cons.mp hn
    have ih := perm_of_sub l (m.erase x) hnx.2 (fun y hy => (List.mem_erase_of_ne (fun e => hnx.1 (by rw [e] at hy; exact hy))).mpr (hs y (List.mem_cons_of_mem _ hy))) (by
      rw [List.length_erase_of_mem hx]
      rw [List.length_cons] at h
      omega)
    exact (List.perm_cons_erase hx).trans (ih.cons x)
/-- the ropes that post v may have -/
def fanC (n v : Int) : List (Int × Int) := ((rng n).filter fun w => decide (w + 2 ≤ v ∨ v + 2 ≤ w) && !decide (w = 0 ∧ v = n - 1) && !decide (v = 0 ∧ w = n - 1)).map fun w => (min v w, max v w)
theorem fanC_dec : ((List.range 13).all fun m => (List.range m).all fun v => decide ((fanC (m : Nat) (v : Nat)).length ≤ m - 3)) = true := by decide +kernel
theorem fan_one {n v : Int} {l m : List (Int × Int)} (h12 : n ≤ 12) (hv0 : 0 ≤ v) (hvn : v < n) (hl : IsCut n l) (hm : IsCut n m) (sl : l.Pairwise le2) (sm : m.Pairwise le2) (ll : (l.length : Int) = n - 3) (lm : (m.length : Int) = n - 3) (al : awayN v l = 0) (am : awayN v m = 0) : l = m := by
  have h3 := hl.three
  obtain ⟨N, rfl⟩ : ∃ N : Nat, n = N := ⟨n.toNat, by omega⟩
  obtain ⟨V0, rfl⟩ : ∃ V0 : Nat, v = V0 := ⟨v.toNat, by omega⟩
  have hC : (fanC (N : Nat) (V0 : Nat)).length ≤ N - 3 := of_decide_eq_true (List.all_eq_true.mp (List.all_eq_true.mp fanC_dec N (List.mem_range.mpr (by omega))) V0 (List.mem_range.mpr (by omega)))
  have sub : ∀ k : List (Int × Int), IsCut (N : Nat) k → awayN (V0 : Nat) k = 0 → ∀ x ∈ k, x ∈ fanC (N : Nat) (V0 : Nat) := fun k hk ak ⟨a, b⟩ hx => by
    have lt := cut_lt hk hx
    dsimp only at lt
    obtain ⟨T, hT, hR⟩ := hk.ex
    have ns := ((hR a b).mp hx).2.2
    have hb : awayB (V0 : Nat) (a, b) = false := by
      unfold awayN at ak
      have := List.filter_eq_nil_iff.mp (List.length_eq_zero_iff.mp ak) (a, b) hx
      exact Bool.eq_false_iff.mpr this
    unfold awayB at hb
    have hv : ((V0 : Nat) : Int) = a ∨ ((V0 : Nat) : Int) = b := by
      exact Classical.byContradiction fun z => by
        have hb : (!decide (((V0 : Nat) : Int) = a ∨ ((V0 : Nat) : Int) = b)) = false := hb
        rw [decide_eq_false z] at hb
        cases hb
    unfold fanC
    rw [List.mem_map]
    rcases hv with e | e
    · refine ⟨b, List.mem_filter.mpr ⟨mem_rng.mpr ⟨by omega, by omega⟩, ?_⟩, ?_⟩
      · rw [decide_eq_true (by omega), decide_eq_false (by omega), decide_eq_false (by omega)]; rfl
      · rw [Int.min_eq_left (by omega), Int.max_eq_right (by omega), e]
    · refine ⟨a, List.mem_filter.mpr ⟨mem_rng.mpr ⟨by omega, by omega⟩, ?_⟩, ?_⟩
      · rw [decide_eq_true (by omega), decide_eq_false (by omega), decide_eq_false (by omega)]; rfl
      · rw [Int.min_eq_right (by omega), Int.max_eq_left (by omega), e]
  have p1 := perm_of_sub l (fanC (N : Nat) (V0 : Nat)) hl.nd (sub l hl al) (by omega)
  have p2 := perm_of_sub m (fanC (N : Nat) (V0 : Nat)) hm.nd (sub m hm am) (by omega)
  exact List.Perm.eq_of_pairwise (le := le2) (fun _ _ _ _ => le2_anti) sl sm (p1.symm.trans p2)

def sp_walk (K : PySem.W.Frag) : Sp := fun vs H Q _ => ∃ (n : Int) (c f : Addr) (xs zs : List V) (l ps : List (Int × Int)), vs = [.int n, .ref c, .ref f] ∧ 3 ≤ n ∧ n ≤ 12 ∧ H c = some (.lst xs) ∧ PrL K H xs l ∧ H f = some (.lst zs) ∧ PrL K H zs ps ∧ l.length ≤ 100 ∧ ps.length ≤ 100 ∧ IsCut n l ∧ RoadOk n l ps ∧
  ∀ H' q ys, Same H H' → H' q = some (.lst ys) → PrL K H' ys (endL n l ps) → Q (.ref q) H'
theorem ok__law_walk (T : Env K mg) (tb : LamX.TabB base mg (He.cT K bzM).1 (He.cT K bzM).2) (qa : T.a_busiest = He.fAd K bzM) : FnOk P w K mg base CX0 4 T.a__law_walk T.fd__law_walk ["_law_n", "_law_cut", "_law_found"] (sp_walk K) := by
  refine T.F__law_walk.ok sc__law_walk (fun vs H Q E h => ?_) (fun cdv A outer s H vs Q E hr h => ?_)
  · obtain ⟨n, c, f, xs, zs, l, ps, rfl, _⟩ := h
    rfl
  · obtain ⟨n, c, f, xs, zs, l, ps, rfl, h3, h12, hc, hL, hf, hP, hl, hpl, hC, hR, q⟩ := h
    refine ⟨_, (pss_cons (ps_if (pt_not (pt_val (pe_call (ok__law_list T tb qa) (hr.mono (by decide)) (by rfl) T.g__law_list T.F__law_list.kp T.b__law_list .nil pass0 (pa_cons (pv 2) (pa_cons pe_int pa_nil)))))
 (pss_one (ps_ret pe_non))
 pss_nil)
 (pss_cons (ps_for PassesOwn.never rfl (pi_list (pv 2)) (pg_name (i := 3) sc__law_walk.nd rfl (.inl rfl))
 (pss_cons (ps_if (pt_cmpR (op_notIn2 (by have h_ := Room.units2 hr; exact h_)) (pv 3) (pv 1) (by rfl))
 (pss_one (ps_ret pe_non))
 pss_nil)
 (pss_one (ps_set (i := 1) sc__law_walk.nd rfl (.inl rfl) (pe_call (ok__law_turned T tb qa) (hr.mono (by decide)) (by rfl) T.g__law_turned T.F__law_turned.kp T.b__law_turned .nil pass0 (pa_cons (pv 0) (pa_cons (pv 1) (pa_cons (pv 3) pa_nil))))))))
 (pss_one (ps_ret (pv 1))))), ?_⟩
    have hzl := hP.length
    refine ⟨_, rfl, f, zs, 2, rfl, hf, by decide, hP.tup2, true, rfl, iteF ?_⟩
    refine ⟨_, rfl, f, rfl, ⟨_, .inl (.inl hf)⟩, for_list (K := K) (a := f) (xs := zs) (fun i σ H' => ∃ (c : Addr) (z : Option V) (xs : List V), σ = [some (.int n), some (.ref c), some (.ref f), z] ∧ Same H H' ∧ H' c = some (.lst xs) ∧ PrL K H' xs (endL n l (ps.take i)) ∧ IsCut n (endL n l (ps.take i)) ∧ (endL n l (ps.take i)).length = l.length) ⟨c, _, xs, rfl, Same.refl _, hc, hL, hC, rfl⟩ (fun i σ H' _ ⟨_, _, _, _, e, _⟩ => .inl (.inl (e _ _ hf))) ?_ ?_⟩
    · rintro i x σ H' hi ⟨c, z, xs, rfl, s2, hc, hL, hC, hln⟩
      obtain ⟨p, hp, hx⟩ := hP.at hi
      have hx' := hx.mono s2
      have hm := hR i p hp
      have e : endL n l (ps.take (i + 1)) = turnL n (endL n l (ps.take i)) p := by rw [take_more hp, endL_more]
      obtain ⟨x1, y1, hT⟩ := turns hC hm
      generalize endL n l (ps.take i) = m at *
      refine ⟨_, rfl, _, rfl, p, c, xs, m, hx', rfl, .inl (.inl hc), hL, by omega, _, rfl, ?_⟩
      show if (!decide (p ∈ m)) = true then _ else _
      rw [decide_eq_true hm]
      refine iteF ?_
      refine ⟨_, rfl, _, rfl, _, rfl, n, c, x, xs, m, p, rfl, h3, h12, hc, hL, hx', by omega, hC, hm, fun H3 g ys s3 ng hg hY => ?_⟩
      rw [← e] at hY
      exact ⟨g, _, ys, rfl, s2.trans s3, hg, hY, by rw [e]; exact hT.isC, by rw [e]; exact hT.len.trans hln⟩
    · rintro σ H' ⟨c, z, xs, rfl, s2, hc, hL, _, _⟩
      rw [List.take_of_length_le (by omega)] at hL
      exact ⟨_, rfl, q H' c xs s2 hc hL⟩
def sp_away (K : PySem.W.Frag) : Sp := fun vs H Q _ => ∃ (c : Addr) (xs : List V) (l : List (Int × Int)) (v : Int), vs = [.ref c, .int v] ∧ H c = some (.lst xs) ∧ PrL K H xs l ∧ l.length ≤ 100 ∧ ∀ H', Same H H' → Q (.int (awayN v l : Int)) H'
theorem ok__law_away (T : Env K mg) (tb : LamX.TabB base mg (He.cT K bzM).1 (He.cT K bzM).2) (qa : T.a_busiest = He.fAd K bzM) : FnOk P w K mg base CX0 1 T.a__law_away T.fd__law_away ["_law_cut", "_law_post"] (sp_away K) := by
  refine T.F__law_away.ok sc__law_away (fun vs H Q E h => ?_) (fun cdv A outer s H vs Q E hr h => ?_)
  · obtain ⟨c, xs, l, v, rfl, _⟩ := h
    rfl
  · obtain ⟨c, xs, l, v, rfl, hc, hL, hl, q⟩ := h
    refine ⟨_, (pss_one (ps_ret (pe_callB (id := "len") call_len_seq (by rfl) T.m_len (by decide +kernel) (pa_cons (pe_lc (own := [("_law_rope", 2)]) (by rfl) sc__law_away.nd (pi_list (pv 0)) (blkOk_by (own := [("_law_rope", 2)]) (N := ["_law_cut", "_law_post", "_law_rope"]) (sc := defScope s__law_away) (by decide +kernel)) (fun _ _ _ _ _ => (pg_name (i := 2) sc__law_away.nd rfl (.inl rfl))) (fun _ _ _ _ _ => (pts_one (pt_cmpR (r := rIn K true) op_notIn_seq (pv 1) (pv 2) (by rfl)))) (fun _ _ _ _ _ => (pv 2))) pa_nil)))), ?_⟩
    have hxl := hL.length
    refine ⟨_, rfl, c, rfl, ⟨_, .inl (.inl hc)⟩, fun D hD => ?_⟩
    refine lc_list (K := K) (a := c) (xs := xs) (fun i H' => ∃ ws, Same H H' ∧ H' D = some (.lst ws) ∧ ws.length = awayN v (l.take i)) ⟨[], same_new hD, upd_same, by rw [List.take_zero]; rfl⟩ ?_ ?_ ?_
    · rintro i H' _ ⟨ws, s3, _, _⟩
      exact .inl (.inl (s3 _ _ hc))
    · rintro i x' H' hi ⟨ws, s3, hz, hW⟩
      obtain ⟨p, hp, t, rfl, ht⟩ := hL.at hi
      have hil : i < l.length := (List.getElem?_eq_some_iff.mp hp).1
      have hfl : awayN v (l.take i) ≤ i := Nat.le_trans (List.length_filter_le _ _) (by rw [List.length_take]; omega)
      refine ⟨rfl, _, rfl, _, rfl, t, _, rfl, .inr (.inl (.inl (s3 _ _ ht))), rfl, rfl, _, rfl, ?_⟩
      show if (!inV (V.int v) [V.int p.1, V.int p.2]) = true then _ else _
      rw [inV2]
      have e : awayN v (l.take (i + 1)) = awayN v (l.take i) + (if awayB v p = true then 1 else 0) := by
        unfold awayN
        rw [take_more hp, filter_more, List.length_append]
        split <;> rfl
      rw [e]
      refine ite2 (fun h => ?_) (fun h => ?_)
      · rw [if_pos h]
        refine ⟨_, rfl, ws, hz, small200' (by omega), ws ++ [.ref t], ?_, upd_same, by rw [List.length_append, hW]; rfl⟩
        intro b' o eb
        rw [upd_ne (ne_of_none eb hD)]
        exact s3 _ _ eb
      · rw [if_neg h]
        exact ⟨ws, s3, hz, hW⟩
    · rintro H' ⟨ws, s3, hz, hW⟩
      rw [List.take_of_length_le (by omega)] at hW
      refine ⟨D, ws, rfl, .inl (.inl (.inl hz)), ?_⟩
      rw [hW]
      exact q H' s3

/-! ### a list, held against an empty one -/
def rEqNil : R2 := fun x y H Q => ∃ a b xs, x = .ref a ∧ y = .ref b ∧ H a = some (.lst xs) ∧ H b = some (.lst []) ∧ Q (.bl xs.isEmpty) H
theorem op_eqNil {X : Cx} (hu : X.A.units + 64 < cLine) : OpR X (compareOp .Eq) rEqNil := by
  intro pins s σ H x y v u Q I rx ry h
  obtain ⟨a, b, xs, rfl, rfl, ha, hb, q⟩ := h
  cases rx
  cases ry
  obtain ⟨_, us, n, v1, l1, g1⟩ := I.lstM ha
  obtain ⟨_, ws, n2, v2, l2, g2⟩ := I.lstM hb
  have w0 : ws = [] := List.eq_nil_of_length_eq_zero l2.symm
  subst w0
  have i1 : s.heap.IsList a us.toArray := ⟨_, g1, rfl, n, rfl⟩
  have i2 : s.heap.IsList b #[] := ⟨_, g2, rfl, n2, rfl⟩
  by_cases e : us = []
  · subst e
    have x0 : xs = [] := List.eq_nil_of_length_eq_zero l1
    subst x0
    exact PySem.SeqAt.RcAt.lists (e := fun _ => true) i1 i2 rfl (by omega) (fun j h1 _ => absurd h1 (Nat.not_lt_zero j)) _ _ _ _ ⟨.bl true, H, I, rfl, q⟩
  · have x1 : xs.isEmpty = false := by
      cases xs with
      | nil => exact absurd (List.eq_nil_of_length_eq_zero l1.symm) e
      | cons => rfl
    rw [x1] at q
    refine PySem.SeqAt.RcAt.lists_lengths i1 i2 ?_ (by omega) _ _ _ _ ⟨.bl false, H, I, rfl, q⟩
    cases us with
    | nil => exact absurd rfl e
    | cons => rfl
theorem op_neNil {X : Cx} (hu : X.A.units + 64 < cLine) : OpR X (compareOp .NotEq) (fun x y H Q => ∃ a b xs, x = .ref a ∧ y = .ref b ∧ H a = some (.lst xs) ∧ H b = some (.lst []) ∧ Q (.bl (!xs.isEmpty)) H) := by
  intro pins s σ H x y v u Q I rx ry h
  obtain ⟨a, b, xs, rfl, rfl, ha, hb, q⟩ := h
  cases rx
  cases ry
  obtain ⟨_, us, n, v1, l1, g1⟩ := I.lstM ha
  obtain ⟨_, ws, n2, v2, l2, g2⟩ := I.lstM hb
  have w0 : ws = [] := List.eq_nil_of_length_eq_zero l2.symm
  subst w0
  have i1 : s.heap.IsList a us.toArray := ⟨_, g1, rfl, n, rfl⟩
  have i2 : s.heap.IsList b #[] := ⟨_, g2, rfl, n2, rfl⟩
  by_cases e : us = []
  · subst e
    have x0 : xs = [] := List.eq_nil_of_length_eq_zero l1
    subst x0
    exact PySem.SeqAt.RcNeAt.lists (e := fun _ => true) i1 i2 rfl (by omega) (fun j h1 _ => absurd h1 (Nat.not_lt_zero j)) _ _ _ _ ⟨.bl false, H, I, rfl, q⟩
  · have x1 : xs.isEmpty = false := by
      cases xs with
      | nil => exact absurd (List.eq_nil_of_length_eq_zero l1.symm) e
      | cons => rfl
    rw [x1] at q
    refine PySem.SeqAt.RcNeAt.lists_lengths i1 i2 ?_ (by omega) _ _ _ _ ⟨.bl true, H, I, rfl, q⟩
    cases us with
    | nil => exact absurd rfl e
    | cons => rfl

/-! ### the road back from a fan -/
theorem pre_ok {n : Int} {m ps : List (Int × Int)} (hm : IsCut n m) (sm : m.Pairwise le2) (hR : RoadOk n m ps) : ∀ i : Nat, IsCut n (endL n m (ps.take i)) ∧ (endL n m (ps.take i)).Pairwise le2
  | 0 => by rw [List.take_zero]; exact ⟨hm, sm⟩
  | i + 1 => by
    have ih := pre_ok hm sm hR i
    cases e : ps[i]? with
    | none =>
      have h1 : ps.length ≤ i := List.getElem?_eq_none_iff.mp e
      rw [List.take_of_length_le (by omega)]
      rw [List.take_of_length_le h1] at ih
      exact ih
    | some p =>
      have hp := hR i p e
      rw [take_more e, endL_more]
      obtain ⟨x, y, hT⟩ := turns ih.1 hp
      exact ⟨hT.isC, hT.srt⟩
theorem roadok_app {n : Int} {l ps rs : List (Int × Int)} (h1 : RoadOk n l ps) (h2 : RoadOk n (endL n l ps) rs) : RoadOk n l (ps ++ rs) := by
  intro i p e
  by_cases hi : i < ps.length
  · rw [List.getElem?_append_left hi] at e
    rw [List.take_append_of_le_length (by omega)]
    exact h1 i p e
  · rw [List.getElem?_append_right (by omega)] at e
    rw [List.take_append, List.take_of_length_le (by omega)]
    unfold endL
    rw [List.foldl_append]
    exact h2 _ p e
theorem road_back {n : Int} {m f : List (Int × Int)} {ts : List PP} (hm : IsCut n m) (sm : m.Pairwise le2) (h : Walked n m ts f) : ∀ k, k ≤ ts.length →
    RoadOk n f (((ts.drop (ts.length - k)).map (·.2)).reverse) ∧ endL n f (((ts.drop (ts.length - k)).map (·.2)).reverse) = endL n m ((ts.map (·.1)).take (ts.length - k))
  | 0, _ => by
    rw [Nat.sub_zero, List.drop_length]
    refine ⟨RoadOk.nil n f, ?_⟩
    rw [List.take_of_length_le (by rw [List.length_map]; exact Nat.le_refl _), h.fin]
    rfl
  | k + 1, hk => by
    have ih := road_back hm sm h k (by omega)
    obtain ⟨t, ht⟩ : ∃ t, ts[ts.length - (k + 1)]? = some t := ⟨_, List.getElem?_eq_getElem (by omega)⟩
    have ej : ts.length - k = ts.length - (k + 1) + 1 := by omega
    have ed : ts.drop (ts.length - (k + 1)) = t :: ts.drop (ts.length - k) := by
      rw [ej]
      obtain ⟨hl, e⟩ := List.getElem?_eq_some_iff.mp ht
      rw [← e]
      exact List.drop_eq_getElem_cons hl
    have em : (ts.map (·.1))[ts.length - (k + 1)]? = some t.1 := by rw [List.getElem?_map, ht]; rfl
    have hp := pre_ok hm sm h.ok (ts.length - (k + 1))
    have hT := h.news _ t ht
    have hmem := h.ok _ _ em
    have et : endL n m ((ts.map (·.1)).take (ts.length - k)) = turnL n (endL n m ((ts.map (·.1)).take (ts.length - (k + 1)))) t.1 := by
      rw [ej, take_more em, endL_more]
    rw [et] at ih
    rw [ed, List.map_cons, List.reverse_cons]
    refine ⟨ih.1.more ?_, ?_⟩
    · rw [ih.2]
      exact (hT.mem _).mpr (.inr rfl)
    · rw [endL_more, ih.2]
      exact turn_back hp.1 hp.2 hmem hT
/-- there and back: the whole road -/
theorem road_whole {n : Int} {l m f : List (Int × Int)} {ts us : List PP} (hm : IsCut n m) (sm : m.Pairwise le2) (h1 : Walked n l ts f) (h2 : Walked n m us f) :
    RoadOk n l (ts.map (·.1) ++ (us.map (·.2)).reverse) ∧ endL n l (ts.map (·.1) ++ (us.map (·.2)).reverse) = m := by
  have b := road_back hm sm h2 us.length (Nat.le_refl _)
  rw [Nat.sub_self, List.drop_zero, List.take_zero] at b
  refine ⟨roadok_app h1.ok (by rw [h1.fin]; exact b.1), ?_⟩
  unfold endL
  rw [List.foldl_append]
  have e := h1.fin
  unfold endL at e
  rw [e]
  exact b.2

theorem pi_tupK {X : Cx} {tg l : Expr} {tl : TE} (hK : X.K = K) (hl : PE X l tl) : PI X tg l (iTup K tl) := by
  subst hK
  exact pi_tup hl
theorem lc_intup {K : PySem.W.Frag} {a : Addr} {xs : List V} {g : TG} {tt : TT} {te : TE} {vs : List Nat} {σ : L2.St} {H1 : Hp} {D : Addr} {Nx : Hp → Prop} (Pv : Nat → Hp → Prop) (h0 : Pv 0 H1) (hl : ∀ i H, i ≤ xs.length → Pv i H → SqT K H a xs)
    (hs : ∀ i x H, xs[i]? = some x → Pv i H → g x (wipe σ vs) H fun σ2 H2 => wipe σ2 vs = wipe σ vs ∧ tt σ2 H2 fun b H3 =>
      if b = true then te σ2 H3 fun y H4 => ∃ acc, H4 D = some (.lst acc) ∧ acc.length < sizeLine ∧ Pv (i + 1) (upd H4 D (.lst (acc ++ [y]))) else Pv (i + 1) H3) (hd : ∀ H, Pv xs.length H → Nx H) :
    ∃ W1 : Nat → Nat → Hp → Prop, (∃ m, W1 0 m H1) ∧ ∀ j k H, W1 j k H →
      ((Itt K a).stop j H ∧ Nx H) ∨ ((Itt K a).go j H ∧ ∃ Nx1 : Hp → Prop, (∀ H', Nx1 H' → ∃ k', k' < k ∧ W1 (j + 1) k' H') ∧ ∀ x H', (Itt K a).yld j H x H' → g x (wipe σ vs) H' fun σ3 H5 => wipe σ3 vs = wipe σ vs ∧ tt σ3 H5 fun b H6 =>
        if b = true then te σ3 H6 fun y H7 => ∃ acc, H7 D = some (.lst acc) ∧ acc.length < sizeLine ∧ Nx1 (upd H7 D (.lst (acc ++ [y]))) else Nx1 H6) := by
  refine ⟨fun i m H => m = xs.length - i ∧ i ≤ xs.length ∧ Pv i H, ⟨xs.length, by simp, Nat.zero_le _, h0⟩, ?_⟩
  rintro i m H ⟨rfl, hi, p⟩
  have q := hl i H hi p
  by_cases hlt : i < xs.length
  · refine .inr ⟨⟨xs, xs[i], q, by simp [hlt]⟩, Pv (i + 1), fun H' p' => ⟨xs.length - (i + 1), by omega, rfl, hlt, p'⟩, fun x H' y => ?_⟩
    obtain ⟨e, y⟩ := y
    subst e
    exact hs i x _ (y xs q) p
  · have e : i = xs.length := by omega
    subst e
    exact .inl ⟨⟨xs, q, Nat.le_refl _⟩, hd H p⟩

theorem All2.rev {α β : Type} {R : α → β → Prop} {xs : List α} {ys : List β} (h : All2 R xs ys) : All2 R xs.reverse ys.reverse := by
  induction h with
  | nil => exact .nil
  | cons h _ ih =>
    rw [List.reverse_cons, List.reverse_cons]
    exact ih.app (.one h)

def tabP (l : List (List (Int × Int))) : List PyData := l.map fun r => PyData.list (r.map dat2)
theorem tabs_eqv : ∀ l m : List (List (Int × Int)), PyData.eqvAll (tabP l) (tabP m) = decide (l = m)
  | [], [] => by simp [tabP, PyData.eqvAll]
  | [], _ :: _ => by simp [tabP, PyData.eqvAll]
  | _ :: _, [] => by simp [tabP, PyData.eqvAll]
  | p :: l, q :: m => by
    have h := tabs_eqv l m
    unfold tabP at h ⊢
    rw [List.map_cons, List.map_cons, PySem.W.eqv_all_cons, h, show PyData.eqv (.list (p.map dat2)) (.list (q.map dat2)) = PyData.eqvAll (p.map dat2) (q.map dat2) from rfl, dat2s_eqv]
    by_cases e : p = q
    · subst e; simp
    · simp [e]
theorem tabP_sh {l : List (List (Int × Int))} (h : l.length ≤ 20) (k : ∀ r ∈ l, r.length ≤ 20) : SeqAt.shaped (.list (tabP l)) = true := by
  have each : ∀ r ∈ l, SeqAt.shaped (.list (r.map dat2)) = true := fun r hr => dat2_sh2 r (by have := k r hr; omega)
  have dep : ∀ r : List (Int × Int), PyData.depthAll (r.map dat2) ≤ 1 := fun r => by
    induction r with
    | nil => decide
    | cons p r ih =>
      show max (PyData.depth (dat2 p)) (PyData.depthAll (r.map dat2)) ≤ 1
      have : PyData.depth (dat2 p) = 1 := rfl
      omega
  unfold SeqAt.shaped
  rw [Bool.and_eq_true, decide_eq_true_eq]
  clear h k
  constructor
  · have go : ∀ l : List (List (Int × Int)), (∀ r ∈ l, SeqAt.shaped (.list (r.map dat2)) = true) → PyData.canLay0 (.list (tabP l)) = true := fun l => by
      induction l with
      | nil => intro _; rfl
      | cons r l ih =>
        intro h
        have h1 := h r List.mem_cons_self
        unfold SeqAt.shaped at h1
        rw [Bool.and_eq_true] at h1
        have h2 := ih fun r hr => h r (List.mem_cons_of_mem _ hr)
        show (PyData.canLay0 (.list (r.map dat2)) && PyData.canLay0 (.list (tabP l))) = true
        rw [h1.1, h2]; rfl
    exact go l each
  · have go : ∀ l : List (List (Int × Int)), PyData.depthAll (tabP l) ≤ 2 := fun l => by
      induction l with
      | nil => decide
      | cons r l ih =>
        show max (PyData.depth (.list (r.map dat2))) (PyData.depthAll (tabP l)) ≤ 2
        have := dep r
        have e : PyData.depth (.list (r.map dat2)) = PyData.depthAll (r.map dat2) + 1 := by simp only [PyData.depth]
        omega
    have := go l
    simp only [PyData.depth]
    omega

theorem lc2_lst {K : PySem.W.Frag} {a : Addr} {xs : List V} {g g1 : TG} {tt tt1 : TT} {wi1 : TI} {te : TE} {vs vs1 : List Nat} {σ : L2.St} {H1 : Hp} {D : Addr} {Qd : Hp → Prop} (Pv : Nat → Hp → Prop) (h0 : Pv 0 (upd H1 D (.lst []))) (hq : ∀ i H, Pv i H → SqL K H a xs)
    (hs : ∀ (i : Nat) (x : V) (H : Hp), xs[i]? = some x → Pv i H → g x (wipe σ vs) H fun σ2 H2 => wipe σ2 vs = wipe σ vs ∧ tt σ2 H2 fun b H3 =>
      if b = true then wi1 σ2 H3 fun J1 H4 => ∃ W1 : Nat → Nat → Hp → Prop, (∃ m, W1 0 m H4) ∧ ∀ j k H, W1 j k H →
        (J1.stop j H ∧ Pv (i + 1) H) ∨ (J1.go j H ∧ ∃ Nx1 : Hp → Prop, (∀ H', Nx1 H' → ∃ k', k' < k ∧ W1 (j + 1) k' H') ∧ ∀ x H', J1.yld j H x H' → g1 x (wipe σ2 vs1) H' fun σ3 H5 => wipe σ3 vs1 = wipe σ2 vs1 ∧ tt1 σ3 H5 fun b H6 =>
          if b = true then te σ3 H6 fun y H7 => ∃ acc, H7 D = some (.lst acc) ∧ acc.length < sizeLine ∧ Nx1 (upd H7 D (.lst (acc ++ [y]))) else Nx1 H6)
      else Pv (i + 1) H3) (hd : ∀ H, Pv xs.length H → Qd H) :
    ∃ W : Nat → Nat → Hp → Prop, (∃ m, W 0 m (upd H1 D (.lst []))) ∧ ∀ i m H, W i m H →
      ((Itl K a).stop i H ∧ Qd H) ∨ ((Itl K a).go i H ∧ ∃ Nx : Hp → Prop, (∀ H', Nx H' → ∃ m', m' < m ∧ W (i + 1) m' H') ∧ ∀ x H', (Itl K a).yld i H x H' → g x (wipe σ vs) H' fun σ2 H2 => wipe σ2 vs = wipe σ vs ∧ tt σ2 H2 fun b H3 =>
        if b = true then wi1 σ2 H3 fun J1 H4 => ∃ W1 : Nat → Nat → Hp → Prop, (∃ m, W1 0 m H4) ∧ ∀ j k H, W1 j k H →
          (J1.stop j H ∧ Nx H) ∨ (J1.go j H ∧ ∃ Nx1 : Hp → Prop, (∀ H', Nx1 H' → ∃ k', k' < k ∧ W1 (j + 1) k' H') ∧ ∀ x H', J1.yld j H x H' → g1 x (wipe σ2 vs1) H' fun σ3 H5 => wipe σ3 vs1 = wipe σ2 vs1 ∧ tt1 σ3 H5 fun b H6 =>
            if b = true then te σ3 H6 fun y H7 => ∃ acc, H7 D = some (.lst acc) ∧ acc.length < sizeLine ∧ Nx1 (upd H7 D (.lst (acc ++ [y]))) else Nx1 H6)
        else Nx H3) := by
  refine ⟨fun i m H => m = xs.length - i ∧ i ≤ xs.length ∧ Pv i H, ⟨xs.length, by simp, Nat.zero_le _, h0⟩, ?_⟩
  rintro i m H ⟨rfl, hi, p⟩
  have q := hq i H p
  by_cases hlt : i < xs.length
  · refine .inr ⟨⟨xs, xs[i], q, by simp [hlt]⟩, Pv (i + 1), fun H' p' => ⟨xs.length - (i + 1), by omega, rfl, hlt, p'⟩, fun x H' y => ?_⟩
    obtain ⟨e, y⟩ := y
    subst e
    exact hs i x _ (y xs q) p
  · have e : i = xs.length := by omega
    subst e
    exact .inl ⟨⟨xs, q, Nat.le_refl _⟩, hd H p⟩

/-! ### the post at which most of the ropes are -/
def endsL (l : List (Int × Int)) : List Int := l.flatMap fun p => [p.1, p.2]
def sp_busiest (K : PySem.W.Frag) : Sp := fun vs H Q _ => ∃ (n : Int) (r : Addr) (xs : List V) (l : List (Int × Int)), vs = [.int n, .ref r] ∧ 3 ≤ n ∧ n ≤ 12 ∧ H r = some (.lst xs) ∧ PrL K H xs l ∧ l.length ≤ 100 ∧ LamX.Tabs [((He.cT K bzM).2, lamQ)] H ∧
  ∀ H' z, LamX.ExtN H H' → LamX.Tabs [((He.cT K bzM).2, lamQ)] H' → 0 ≤ z → z < n → (∀ y, 0 ≤ y → y < n → (endsL l).count y ≤ (endsL l).count z) → Q (.int z) H'
theorem endsL_more (l : List (Int × Int)) (p : Int × Int) : endsL (l ++ [p]) = endsL l ++ [p.1, p.2] := by unfold endsL; rw [List.flatMap_append]; rfl
theorem endsL_len : ∀ l : List (Int × Int), (endsL l).length = 2 * l.length
  | [] => rfl
  | p :: l => by
    have := endsL_len l
    show (p.1 :: p.2 :: endsL l).length = 2 * (l.length + 1)
    rw [List.length_cons, List.length_cons, this]
    omega
theorem lamFree : ∀ y ∈ ([("post", .local), ("ends", .free)] : List (Str × NameKind)), y.2 = .free → (defScope s_busiest).names.lookup y.1 = some .cell ∨ (defScope s_busiest).names.lookup y.1 = some .free := by decide +kernel
theorem ok_busiest (T : Env K mg) (tb : LamX.TabB base mg (He.cT K bzM).1 (He.cT K bzM).2) (qa : T.a_busiest = He.fAd K bzM) : FnOk P w K mg base CX0 8 T.a_busiest T.fd_busiest ["n", "ropes"] (sp_busiest K) := by
  refine fun_okC T.F_busiest qa sc_busiest (fun vs H Q E h => ?_) (fun cdv A outer s H vs Q E hr hcd h => ?_)
  · obtain ⟨n, r, xs, l, rfl, _⟩ := h
    rfl
  · obtain ⟨n, r, xs, l, rfl, h3, h12, hc, hL, hl, hT, kk⟩ := h
    refine ⟨_, (pss_cons (ps_set (i := 2) sc_busiest.nd rfl (.inr rfl) (pe_lc2 (own := [("rope", 3), ("end", 4)]) (vs1 := [4]) (by rfl) sc_busiest.nd (pi_list (pv 1)) (blkOk_by (own := [("rope", 3), ("end", 4)]) (N := ["n", "ropes", "ends", "rope", "end"]) (sc := defScope s_busiest) (by decide +kernel)) (by decide) (fun _ _ _ _ _ => (pg_name (i := 3) sc_busiest.nd rfl (.inl rfl))) (fun _ _ _ _ _ => pts_nil) (fun _ _ _ _ _ => (pi_tupK (K := K) rfl (pv 3))) (fun _ _ _ _ _ => (pg_name (i := 4) sc_busiest.nd rfl (.inl rfl))) (fun _ _ _ _ _ => pts_nil) (fun _ _ _ _ _ => (pv 4))))
 (pss_one (ps_ret (pe_maxlam (k := 4) (tb := tBM K "list" (rCntI K) (tVar 1) (tCons (tVar 0) tNil)) (a := "post") (fr := ["ends"]) (N := ["post", "ends"]) (js := [2]) (T := [((He.cT K bzM).2, lamQ)]) (by rfl) T.m_max (by decide +kernel) (pa_cons (pe_listRg rfl (by rfl) T.m_list (prg_1 (by rfl) T.m_range (pv 0))) pa_nil) tb hcd (List.mem_singleton.mpr rfl) (fun p hp _ => congrArg Prod.snd (List.mem_singleton.mp hp)) rfl (hr.mono (by decide)) (NdefX.nscope_by (by decide +kernel)) lamFree (by decide +kernel) rfl (fun _ _ _ _ _ _ => rfl) (fun _ _ _ _ _ _ _ => by exact pe_bm PySem.F.plainAttrs_list PySem.F.slot_list_count PySem.F.type_list_count mt_lcount (pv 1) (pa_cons (pv 0) pa_nil)))))), ?_⟩
    have hxl := hL.length
    refine ⟨_, rfl, r, rfl, ⟨_, .inl (.inl hc)⟩, fun D hD => ?_⟩
    refine lc2_lst (K := K) (a := r) (xs := xs) (fun i H' => Same H H' ∧ H' D = some (.lst ((endsL (l.take i)).map V.int))) ⟨same_new hD, upd_same⟩ (fun i H' ⟨s, _⟩ => .inl (.inl (s _ _ hc))) ?_ ?_
    · rintro i x H' hi ⟨s2, hz⟩
      obtain ⟨p, hp, u, rfl, hu⟩ := hL.at hi
      have hil := (List.getElem?_eq_some_iff.mp hp).1
      have hel := endsL_len (l.take i)
      rw [List.length_take] at hel
      refine ⟨rfl, yes_read ?_⟩
      refine ⟨_, rfl, u, rfl, ⟨_, .inl (.inl (s2 _ _ hu))⟩, ?_⟩
      refine lc_intup (K := K) (a := u) (xs := [.int p.1, .int p.2]) (fun j H2 => Same H H2 ∧ H2 u = some (.tup [.int p.1, .int p.2]) ∧ H2 D = some (.lst ((endsL (l.take i) ++ [p.1, p.2].take j).map V.int))) ⟨s2, s2 _ _ hu, by rw [List.take_zero, List.append_nil]; exact hz⟩ (fun j H2 _ ⟨_, h, _⟩ => .inl (.inl h)) ?_ ?_
      · rintro j x H2 hj ⟨s3, hu3, hz3⟩
        have hD2 : ∀ o, H D = some o → False := fun o e => by rw [hD] at e; cases e
        have hj2 : j < 2 := (List.getElem?_eq_some_iff.mp hj).1
        obtain ⟨z, hzz, rfl⟩ : ∃ z, [p.1, p.2][j]? = some z ∧ x = V.int z := by
          match j, hj with
          | 0, hj => exact ⟨p.1, rfl, (Option.some.inj hj).symm⟩
          | 1, hj => exact ⟨p.2, rfl, (Option.some.inj hj).symm⟩
        refine ⟨rfl, yes_read ?_⟩
        refine ⟨_, rfl, _, hz3, small1000 ?_, same_put s3 hD, ?_, ?_⟩
        · rw [List.length_map, List.length_append, List.length_take]
          omega
        · rw [upd_ne (ne_of hu3 hz3 (fun z => nomatch z))]
          exact hu3
        · rw [upd_same, take_more hzz, ← List.append_assoc, List.map_append (l₁ := endsL (l.take i) ++ [p.1, p.2].take j)]
          rfl
      · rintro H2 ⟨s3, _, hz3⟩
        refine ⟨s3, ?_⟩
        rw [take_more hp, endsL_more]
        exact hz3
    rintro H1 ⟨s1, hz⟩
    rw [List.take_of_length_le (by omega)] at hz
    have hT1 : LamX.Tabs [((He.cT K bzM).2, lamQ)] H1 := hT.ext s1
    have eN1 : LamX.ExtN H H1 := LamX.ExtN.of s1
    refine ⟨_, rfl, n, rfl, RgOk.of_le (by omega) (by omega) (by omega) (by omega), fun a ha => ?_⟩
    have s2 : Same H1 _ := same_new (o := .lst (rgV 0 n)) ha
    have ea : (upd H1 a (.lst (rgV 0 n))) a = some (.lst (((List.range (n - 0).toNat).map fun i => (0 : Int) + (i : Nat)).map V.int)) := by
      rw [upd_same, List.map_map]
      rfl
    have mem : ∀ z : Int, z ∈ ((List.range (n - 0).toNat).map fun i => (0 : Int) + (i : Nat)) ↔ 0 ≤ z ∧ z < n := fun z => by
      rw [List.mem_map]
      constructor
      · rintro ⟨i, hi, rfl⟩
        have := List.mem_range.mp hi
        omega
      · rintro ⟨h1, h2⟩
        exact ⟨z.toNat, List.mem_range.mpr (by omega), by omega⟩
    have hpos : 0 < ((List.range (n - 0).toNat).map fun i => (0 : Int) + (i : Nat)).length := by rw [List.length_map, List.length_range]; omega
    generalize ((List.range (n - 0).toNat).map fun i => (0 : Int) + (i : Nat)) = ns at *
    generalize upd H1 a (.lst (rgV 0 n)) = H2 at *
    refine ⟨hT1.ext s2, a, ns, fun z => (((endsL l).count z : Nat) : Int), rfl, ea, hpos, fun H3 e3 T3 => ⟨fun z _ => ?_, fun z hz1 hm => ?_⟩⟩
    · exact ⟨_, rfl, .inl ⟨rfl, _, .inl (.inl (e3 _ _ (s2 _ _ hz) (fun _ z => nomatch z)))⟩, _, rfl, D, endsL l, z, rfl, rfl, .inl (.inl (e3 _ _ (s2 _ _ hz) (fun _ z => nomatch z))), rfl, rfl⟩
    · obtain ⟨z0, zn⟩ := (mem z).mp hz1
      exact kk H3 z ((eN1.trans (LamX.ExtN.of s2)).trans e3) T3 z0 zn fun y y0 yn => by
        have h : (((endsL l).count y : Nat) : Int) ≤ (((endsL l).count z : Nat) : Int) := hm y ((mem y).mpr ⟨y0, yn⟩)
        omega
/-! ### a road -/
theorem away_cnt {v : Int} : ∀ {l : List (Int × Int)}, (∀ p ∈ l, p.1 ≠ p.2) → awayN v l + (endsL l).count v = l.length
  | [], _ => rfl
  | p :: l, h => by
    have ih := away_cnt (v := v) (l := l) fun q hq => h q (List.mem_cons_of_mem _ hq)
    have ne := h p List.mem_cons_self
    have e1 : awayN v (p :: l) = awayN v l + (if awayB v p = true then 1 else 0) := by
      unfold awayN
      rw [List.filter_cons]
      split <;> simp
    have e2 : (endsL (p :: l)).count v = (endsL l).count v + (if awayB v p = true then 0 else 1) := by
      show (p.1 :: p.2 :: endsL l).count v = _
      rw [List.count_cons, List.count_cons]
      unfold awayB
      by_cases h1 : p.1 = v
      · have h2 : ¬ p.2 = v := fun e => ne (h1.trans e.symm)
        rw [decide_eq_true (Or.inl h1.symm)]
        simp [h1, h2]
      · by_cases h2 : p.2 = v
        · rw [decide_eq_true (Or.inr h2.symm)]
          simp [h1, h2]
        · rw [decide_eq_false (by omega)]
          simp [h1, h2]
    rw [e1, e2, List.length_cons]
    split <;> omega
theorem endsL_app (l m : List (Int × Int)) : endsL (l ++ m) = endsL l ++ endsL m := by unfold endsL; rw [List.flatMap_append]
def sp_road (K : PySem.W.Frag) : Sp := fun vs H Q _ => ∃ (n : Int) (c d : Addr) (xs ys : List V) (l m : List (Int × Int)), vs = [.int n, .ref c, .ref d] ∧ 3 ≤ n ∧ n ≤ 12 ∧ H c = some (.lst xs) ∧ PrL K H xs l ∧ H d = some (.lst ys) ∧ PrL K H ys m ∧ IsCut n l ∧ l.Pairwise le2 ∧ (l.length : Int) = n - 3 ∧ IsCut n m ∧ m.Pairwise le2 ∧ (m.length : Int) = n - 3 ∧ LamX.Tabs [((He.cT K bzM).2, lamQ)] H ∧
  ∀ H' q zs ps, LamX.ExtN H H' → LamX.Tabs [((He.cT K bzM).2, lamQ)] H' → (∀ b o, H b = some o → (∀ ps, o ≠ .tbl ps) → b ≠ q) → H' q = some (.lst zs) → PrL K H' zs ps → RoadOk n l ps → endL n l ps = m → (l = m → ps = []) → ps.length ≤ 18 → (∀ y, 0 ≤ y → y < n → ps.length ≤ awayN y l + awayN y m) → Q (.ref q) H'
theorem ok_road (T : Env K mg) (tb : LamX.TabB base mg (He.cT K bzM).1 (He.cT K bzM).2) (qa : T.a_busiest = He.fAd K bzM) : FnOk P w K mg base CX0 9 T.a_road T.fd_road ["n", "one", "other"] (sp_road K) := by
  refine T.F_road.ok sc_road (fun vs H Q E h => ?_) (fun cdv A outer s H vs Q E hr h => ?_)
  · obtain ⟨n, c, d, xs, ys, l, m, rfl, _⟩ := h
    rfl
  · obtain ⟨n, c, d, xs, ys, l, m, rfl, h3, h12, hc, hL, hd, hM, hC, hs, hl, hC2, hs2, hm, hT, kk⟩ := h
    refine ⟨_, (pss_cons (ps_if (pt_cmpR (op_eqL2 (by have h_ := hr.units; exact h_)) (pv 1) (pv 2) (nomark _))
 (pss_one (ps_ret (pe_lst pa_nil)))
 pss_nil)
 (pss_cons (ps_set (i := 3) sc_road.nd rfl (.inl rfl) (pe_call (ok_busiest T tb qa) (hr.mono (by decide)) (by rfl) T.g_busiest T.F_busiest.kp T.b_busiest .nil pass0 (pa_cons (pv 0) (pa_cons (pe_op op_cat (pv 1) (pv 2)) pa_nil))))
 (pss_cons (ps_setLc (i := 4) (own := [("old", 6), ("_", 7)]) (by rfl) sc_road.nd rfl rfl (sw_true rfl rfl rfl (by decide +kernel)) (pi_list (pe_call (ok_fan_turnings T tb qa) (hr.mono (by decide)) (by rfl) T.g_fan_turnings T.F_fan_turnings.kp T.b_fan_turnings .nil pass0 (pa_cons (pv 0) (pa_cons (pv 1) (pa_cons (pv 3) pa_nil))))) (blkOk_by (own := [("old", 6), ("_", 7)]) (N := ["n", "one", "other", "post", "ahead", "behind", "old", "_", "new"]) (sc := defScope s_road) (by decide +kernel)) (fun _ _ _ _ _ => (pg_tupK (K := K) (n := 2) rfl rfl (pgs_cons (pg_name (i := 6) sc_road.nd rfl (.inl rfl)) (pgs_cons (pg_name (i := 7) sc_road.nd rfl (.inl rfl)) pgs_nil)))) (fun _ _ _ _ _ => pts_nil) (fun _ _ _ _ _ => (pv 6)))
 (pss_cons (ps_setLc (i := 5) (own := [("_", 7), ("new", 8)]) (by rfl) sc_road.nd rfl rfl (sw_true rfl rfl rfl (by decide +kernel)) (pi_list (pe_call (ok_fan_turnings T tb qa) (hr.mono (by decide)) (by rfl) T.g_fan_turnings T.F_fan_turnings.kp T.b_fan_turnings .nil pass0 (pa_cons (pv 0) (pa_cons (pv 2) (pa_cons (pv 3) pa_nil))))) (blkOk_by (own := [("_", 7), ("new", 8)]) (N := ["n", "one", "other", "post", "ahead", "behind", "old", "_", "new"]) (sc := defScope s_road) (by decide +kernel)) (fun _ _ _ _ _ => (pg_tupK (K := K) (n := 2) rfl rfl (pgs_cons (pg_name (i := 7) sc_road.nd rfl (.inl rfl)) (pgs_cons (pg_name (i := 8) sc_road.nd rfl (.inl rfl)) pgs_nil)))) (fun _ _ _ _ _ => pts_nil) (fun _ _ _ _ _ => (pv 8)))
 (pss_one (ps_ret (pe_op op_cat (pv 4) (pe_revL (pv 5))))))))), ?_⟩
    have hxl := hL.length
    have hyl := hM.length
    refine ⟨_, rfl, _, rfl, c, d, xs, ys, l, m, rfl, rfl, .inl (.inl hc), hL, .inl (.inl hd), hM, by omega, by omega, _, rfl, ?_⟩
    show if decide (l = m) = true then _ else _
    by_cases elm : l = m
    · rw [decide_eq_true elm]
      refine iteT ⟨small200 (by show 0 ≤ 200; decide), fun q hq => ?_⟩
      have s1 : Same H _ := same_new (o := .lst []) hq
      exact kk _ q [] [] (LamX.ExtN.of s1) (hT.ext s1) (fun b o e _ z => by rw [z, hq] at e; cases e) upd_same .nil (RoadOk.nil n l) elm (fun _ => rfl) (by decide) fun y _ _ => Nat.zero_le _
    rw [decide_eq_false elm]
    refine iteF ?_
    refine ⟨_, rfl, _, rfl, _, rfl, c, d, xs, ys, rfl, rfl, hc, hd, small200 (by omega), fun q hq => ?_⟩
    have s1 : Same H _ := same_new (o := .lst (xs ++ ys)) hq
    have eq1 : (upd H q (.lst (xs ++ ys))) q = some (.lst (xs ++ ys)) := upd_same
    generalize upd H q (.lst (xs ++ ys)) = H1 at *
    refine ⟨n, q, xs ++ ys, l ++ m, rfl, h3, h12, eq1, (hL.mono s1).app (hM.mono s1), by rw [List.length_append]; omega, hT.ext s1, fun H2 post eN T2 p0 pn hmax => ?_⟩
    have eN2 : LamX.ExtN H H2 := (LamX.ExtN.of s1).trans eN
    have ts2 : TupS H H2 := fun b xs e => eN2 b _ e (fun _ z => nomatch z)
    have hc2 := eN2 _ _ hc (fun _ z => nomatch z)
    have hd2 := eN2 _ _ hd (fun _ z => nomatch z)
    have hL2 := hL.tups ts2
    have hM2 := hM.tups ts2
    clear s1 eq1 eN hq
    refine ⟨_, rfl, _, rfl, _, rfl, n, c, xs, l, post, rfl, h3, h12, p0, pn, hc2, hL2, by omega, hC, hs, fun H3 qa za ts f s3 nqa hqa hZ hW hA hcnt => ?_⟩
    have hzl := hZ.length
    have hal := away_le post l
    refine ⟨qa, rfl, ⟨_, .inl (.inl hqa)⟩, fun D hD => ?_⟩
    refine lc_list (K := K) (a := qa) (xs := za) (fun i H' => ∃ ws, Same H3 H' ∧ H' D = some (.lst ws) ∧ PrL K H' ws ((ts.map (·.1)).take i)) ⟨[], same_new hD, upd_same, by rw [List.take_zero]; exact .nil⟩ ?_ ?_ ?_
    · rintro i H' _ ⟨ws, s4, _, _⟩
      exact .inl (.inl (s4 _ _ hqa))
    · rintro i x' H' hi ⟨ws, s4, hz, hP⟩
      obtain ⟨t, ht, a, u, w', rfl, ha, hu, hw⟩ := hZ.at hi
      have hil : i < ts.length := (List.getElem?_eq_some_iff.mp ht).1
      have hpl := hP.length
      rw [List.length_take, List.length_map] at hpl
      refine ⟨a, _, rfl, .inl (.inl (s4 _ _ ha)), rfl, _, _, rfl, _, _, rfl, rfl, rfl, yes_read ?_⟩
      refine ⟨_, rfl, ws, hz, small200' (by omega), ws ++ [u], same_put s4 hD, upd_same, ?_⟩
      have em : (ts.map (·.1))[i]? = some t.1 := by rw [List.getElem?_map, ht]; rfl
      rw [take_more em]
      have tsp := TupS.put (o := .lst (ws ++ [u])) hz
      exact (hP.tups tsp).app (.one ((hu.mono s4).tups tsp))
    rintro H4 ⟨wa, s4, hwa, hPa⟩
    rw [List.take_of_length_le (by rw [List.length_map]; omega)] at hPa
    have s24 := s3.trans s4
    refine ⟨_, rfl, _, rfl, _, rfl, n, d, ys, m, post, rfl, h3, h12, p0, pn, s24 _ _ hd2, hM2.mono s24, by omega, hC2, hs2, fun H5 qb zb us f2 s5 nqb hqb hZb hWb hAb hcntb => ?_⟩
    have hzbl := hZb.length
    have halb := away_le post m
    refine ⟨qb, rfl, ⟨_, .inl (.inl hqb)⟩, fun D2 hD2 => ?_⟩
    refine lc_list (K := K) (a := qb) (xs := zb) (fun i H' => ∃ ws, Same H5 H' ∧ H' D2 = some (.lst ws) ∧ PrL K H' ws ((us.map (·.2)).take i)) ⟨[], same_new hD2, upd_same, by rw [List.take_zero]; exact .nil⟩ ?_ ?_ ?_
    · rintro i H' _ ⟨ws, s6, _, _⟩
      exact .inl (.inl (s6 _ _ hqb))
    · rintro i x' H' hi ⟨ws, s6, hz, hP⟩
      obtain ⟨t, ht, a, u, w', rfl, ha, hu, hw⟩ := hZb.at hi
      have hil : i < us.length := (List.getElem?_eq_some_iff.mp ht).1
      have hpl := hP.length
      rw [List.length_take, List.length_map] at hpl
      refine ⟨a, _, rfl, .inl (.inl (s6 _ _ ha)), rfl, _, _, rfl, _, _, rfl, rfl, rfl, yes_read ?_⟩
      refine ⟨_, rfl, ws, hz, small200' (by omega), ws ++ [w'], same_put s6 hD2, upd_same, ?_⟩
      have em : (us.map (·.2))[i]? = some t.2 := by rw [List.getElem?_map, ht]; rfl
      rw [take_more em]
      have tsp := TupS.put (o := .lst (ws ++ [w'])) hz
      exact (hP.tups tsp).app (.one ((hw.mono s6).tups tsp))
    rintro H6 ⟨wb, s6, hwb, hPb⟩
    rw [List.take_of_length_le (by rw [List.length_map]; omega)] at hPb
    have s46 := s5.trans s6
    have efan : f = f2 := fan_one h12 p0 pn hW.isC hWb.isC hW.srt hWb.srt (by rw [hW.len]; exact hl) (by rw [hWb.len]; exact hm) hA hAb
    subst efan
    obtain ⟨hR, hE⟩ := road_whole hC2 hs2 hW hWb
    have hwal := hPa.length
    have hwbl := hPb.length
    rw [List.length_map] at hwal hwbl
    refine ⟨_, rfl, _, rfl, D2, wb, rfl, .inl (.inl hwb), fun e he => ?_⟩
    have s7 : Same H6 _ := same_new (o := .lst wb.reverse) he
    have ee : (upd H6 e (.lst wb.reverse)) e = some (.lst wb.reverse) := upd_same
    generalize upd H6 e (.lst wb.reverse) = H7 at *
    have s47 := s46.trans s7
    refine ⟨D, e, wa, wb.reverse, rfl, rfl, s47 _ _ hwa, ee, small200 (by rw [List.length_reverse]; omega), fun r hr => ?_⟩
    have s8 : Same H7 _ := same_new (o := .lst (wa ++ wb.reverse)) hr
    have s28 := (s24.trans s47).trans s8
    have e28 : LamX.ExtN H (upd H7 r (.lst (wa ++ wb.reverse))) := eN2.trans (LamX.ExtN.of s28)
    have hn0 : ∀ p ∈ l, p.1 ≠ p.2 := fun p hp => by have := cut_lt hC hp; omega
    have hn1 : ∀ p ∈ m, p.1 ≠ p.2 := fun p hp => by have := cut_lt hC2 hp; omega
    have eln : (ts.map (·.1) ++ (us.map (·.2)).reverse).length = awayN post l + awayN post m := by
      rw [List.length_append, List.length_reverse, List.length_map, List.length_map, hcnt, hcntb]
    refine kk _ r (wa ++ wb.reverse) (ts.map (·.1) ++ (us.map (·.2)).reverse) e28 (T2.ext s28) (fun b o e0 nt z => ?_) upd_same (PrL.mono s8 ((hPa.mono s47).app (All2.rev (hPb.mono s7)))) hR hE (fun z => absurd z elm) (by rw [eln]; omega) fun y y0 yn => ?_
    · have e1 := (eN2.trans (LamX.ExtN.of (s24.trans s47))) b o e0 nt
      rw [z, hr] at e1
      cases e1
    · have h := hmax y y0 yn
      rw [endsL_app, List.count_append, List.count_append] at h
      have a1 := away_cnt (v := y) hn0
      have a2 := away_cnt (v := y) hn1
      have a3 := away_cnt (v := post) hn0
      have a4 := away_cnt (v := post) hn1
      rw [eln]
      omega

def sp_law (K : PySem.W.Frag) : Sp := fun vs H Q _ => ∃ (a : Addr) (ns : List Int), vs = [.ref a] ∧ H (He.cT K bzM).2 = some (.tbl #[]) ∧ SqL K H a (ns.map V.int) ∧ ns.length ≤ 63 ∧ ∀ H', Q (.bl true) H'
theorem cut_ok (rs : List Int) (k : Nat) : cutV (rs.map V.int) (some (k : Int)) none = (rs.drop k).map V.int := by rw [cut_drop, List.map_drop]
theorem rowOk_drop {rs : List Int} (h : rowOk rs) (k : Nat) : rowOk (rs.drop k) := fun v hv => h v (List.mem_of_mem_drop hv)
theorem pair_at {H : Hp} {xs : List V} {l : List (Int × Int)} {k : Nat} (h : PrL K H xs l) (hk : k < l.length) : ∃ (t : Addr) (p : Int × Int), p ∈ l ∧ atI xs (k : Int) = some (.ref t) ∧ SqT K H t [.int p.1, .int p.2] := by
  obtain ⟨x, ex, t, rfl, ht⟩ := h.at' (List.getElem?_eq_getElem hk)
  exact ⟨t, l[k], List.getElem_mem hk, atI_nat ex, .inl (.inl ht)⟩
/-- what law holds behind the drawing -/
structure Drawn (K : PySem.W.Frag) (H : Hp) (n : Int) (c t : Addr) (cut : List (Int × Int)) : Prop where
  three : 3 ≤ n
  most : n ≤ 12
  isC : IsCut n cut
  srt : cut.Pairwise le2
  len : (cut.length : Int) = n - 3
  ex : ∃ xs, H c = some (.lst xs) ∧ PrL K H xs cut
  ty : ∃ ys, H t = some (.lst ys) ∧ PrL K H ys (tiesS n cut)
theorem Drawn.mono {H H' : Hp} {n : Int} {c t : Addr} {cut : List (Int × Int)} (s : Same H H') (h : Drawn K H n c t cut) : Drawn K H' n c t cut := by
  obtain ⟨xs, e1, e2⟩ := h.ex
  obtain ⟨ys, e3, e4⟩ := h.ty
  exact ⟨h.three, h.most, h.isC, h.srt, h.len, ⟨xs, s _ _ e1, e2.mono s⟩, ⟨ys, s _ _ e3, e4.mono s⟩⟩
theorem Drawn.few {H : Hp} {n : Int} {c t : Addr} {cut : List (Int × Int)} (h : Drawn K H n c t cut) : cut.length ≤ 9 := by have := h.len; have := h.most; omega
theorem isCut_perm {n : Int} {l m : List (Int × Int)} (h : IsCut n l) (p : m.Perm l) : IsCut n m := by
  obtain ⟨T, hT, hR⟩ := h.ex
  exact ⟨h.three, p.nodup_iff.mpr h.nd, T, hT, fun a b => (p.mem_iff).trans (hR a b)⟩

theorem ok_law (T : Env K mg) (tb : LamX.TabB base mg (He.cT K bzM).1 (He.cT K bzM).2) (qa : T.a_busiest = He.fAd K bzM) : FnOk P w K mg base CX0 10 T.a_law T.fd_law ["_law_script"] (sp_law K) := by
  refine T.F_law.ok sc_law (fun vs H Q E h => ?_) (fun cdv A outer s H vs Q E hr h => ?_)
  · obtain ⟨a, ns, rfl, _⟩ := h
    rfl
  · obtain ⟨a, ns, rfl, hT0, hS, hl, q⟩ := h
    refine ⟨_, (pss_cons (ps_set (i := 1) sc_law.nd rfl (.inl rfl) (pe_call (ok__law_flow T tb qa) (hr.mono (by decide)) (by rfl) T.g__law_flow T.F__law_flow.kp T.b__law_flow .nil pass0 (pa_cons (pv 0) (pa_cons pe_int pa_nil))))
 (pss_cons (ps_set (i := 2) sc_law.nd rfl (.inl rfl) (pe_call (ok__law_many T tb qa) (hr.mono (by decide)) (by rfl) T.g__law_many T.F__law_many.kp T.b__law_many .nil pass0 (pa_cons (pv 1) pa_nil)))
 (pss_cons (ps_set (i := 3) sc_law.nd rfl (.inl rfl) (pe_call (ok__law_ropes T tb qa) (hr.mono (by decide)) (by rfl) T.g__law_ropes T.F__law_ropes.kp T.b__law_ropes .nil pass0 (pa_cons (pe_call (ok__law_ears T tb qa) (hr.mono (by decide)) (by rfl) T.g__law_ears T.F__law_ears.kp T.b__law_ears .nil pass0 (pa_cons (pv 2) (pa_cons (pe_slice sl_list (pv 1) (po_some pe_int) po_none) pa_nil))) pa_nil)))
 (pss_cons (ps_set (i := 4) sc_law.nd rfl (.inl rfl) (pe_call (ok__law_ropes T tb qa) (hr.mono (by decide)) (by rfl) T.g__law_ropes T.F__law_ropes.kp T.b__law_ropes .nil pass0 (pa_cons (pe_call (ok__law_ears T tb qa) (hr.mono (by decide)) (by rfl) T.g__law_ears T.F__law_ears.kp T.b__law_ears .nil pass0 (pa_cons (pv 2) (pa_cons (pe_slice sl_list (pv 1) (po_some pe_int) po_none) pa_nil))) pa_nil)))
 (C8.pss_cut (ps_if (pt_cmpR op_eq (pe_op op_mod (pe_ix ix_list (pv 1) pe_int (fun _ _ => rfl)) pe_int) pe_int (nomark _))
 (pss_one (ps_set (i := 4) sc_law.nd rfl (.inl rfl) (pe_callTy call_list_of (by rfl) T.m_list (by decide +kernel) (pa_cons (pv 3) pa_nil))))
 pss_nil)
 (C8.pss_cut (ps_if (PW.pt (pw_and (pt_cmpR op_eq (pe_op op_mod (pe_ix ix_list (pv 1) pe_int (fun _ _ => rfl)) pe_int) pe_int (nomark _)) (pw_and1 (pt_cmpR op_gt (pv 2) pe_int (nomark _)))))
 (pss_one (ps_set (i := 4) sc_law.nd rfl (.inl rfl) (pe_call (ok__law_turned T tb qa) (hr.mono (by decide)) (by rfl) T.g__law_turned T.F__law_turned.kp T.b__law_turned .nil pass0 (pa_cons (pv 2) (pa_cons (pv 3) (pa_cons (pe_ix ix_list (pv 3) (pe_op op_mod (pe_ix ix_list (pv 1) pe_int (fun _ _ => rfl)) (pe_callB (id := "len") call_len_seq (by rfl) T.m_len (by decide +kernel) (pa_cons (pv 3) pa_nil))) (fun _ _ => rfl)) pa_nil))))))
 pss_nil)
 (pss_cons (ps_set (i := 5) sc_law.nd rfl (.inl rfl) (pe_lst (pa_cons (pe_callTy call_list_of (by rfl) T.m_list (by decide +kernel) (pa_cons (pv 3) pa_nil)) (pa_cons (pe_callTy call_list_of (by rfl) T.m_list (by decide +kernel) (pa_cons (pv 4) pa_nil)) pa_nil))))
 (pss_cons (ps_set (i := 6) sc_law.nd rfl (.inl rfl) (pe_call (ok_road T tb qa) (hr.mono (by decide)) (by rfl) T.g_road T.F_road.kp T.b_road .nil pass0 (pa_cons (pv 2) (pa_cons (pe_ix ix_list (pv 5) pe_int (fun _ _ => rfl)) (pa_cons (pe_ix ix_list (pv 5) pe_int (fun _ _ => rfl)) pa_nil)))))
 (pss_cons (ps_set (i := 7) sc_law.nd rfl (.inl rfl) (pe_call (ok__law_walk T tb qa) (hr.mono (by decide)) (by rfl) T.g__law_walk T.F__law_walk.kp T.b__law_walk .nil pass0 (pa_cons (pv 2) (pa_cons (pv 3) (pa_cons (pv 6) pa_nil)))))
 (pss_cons (ps_if (PW.pt (pw_or (pt_cmpR op_isN (pv 7) pe_non (nomark _)) (pw_or (pt_cmpR (op_neL2 (by have h_ := hr.units; exact h_)) (pv 7) (pv 4) (nomark _)) (pw_or1 (pt_cmpR (op_neD hr.units) (pv 5) (pe_lst (pa_cons (pv 3) (pa_cons (pv 4) pa_nil))) (nomark _))))))
 (pss_one (ps_ret pe_bl))
 pss_nil)
 (pss_cons (ps_if (pt_cmpR (op_eqL2 (by have h_ := hr.units; exact h_)) (pv 3) (pv 4) (nomark _))
 (pss_one (ps_ret (pe_cmpR (op_eqNil hr.units) (pv 6) (pe_lst pa_nil) (nomark _))))
 pss_nil)
 (pss_cons (ps_for PassesOwn.never rfl (pi_range1 (by rfl) T.m_range (pa_cons (pv 2) pa_nil)) (pg_name (i := 8) sc_law.nd rfl (.inl rfl))
 (pss_one (ps_if (pt_cmpR op_gt (pe_callB (id := "len") call_len_seq (by rfl) T.m_len (by decide +kernel) (pa_cons (pv 6) pa_nil)) (pe_op op_add (pe_call (ok__law_away T tb qa) (hr.mono (by decide)) (by rfl) T.g__law_away T.F__law_away.kp T.b__law_away .nil pass0 (pa_cons (pv 3) (pa_cons (pv 8) pa_nil))) (pe_call (ok__law_away T tb qa) (hr.mono (by decide)) (by rfl) T.g__law_away T.F__law_away.kp T.b__law_away .nil pass0 (pa_cons (pv 4) (pa_cons (pv 8) pa_nil)))) (nomark _))
 (pss_one (ps_ret pe_bl))
 pss_nil)))
 (pss_one (ps_ret pe_bl)))))))))))))), ?_⟩
    refine ⟨_, rfl, a, ns, 28, rfl, hS, hl, by decide, by decide, fun H1 p rs hs hp hlen hro hrow => ?_⟩
    have hlen : rs.length = 28 := hlen
    have hR : ∀ {H2}, Same H1 H2 → SqL K H2 p (rs.map V.int) := fun s => .inl (.inl (s _ _ hrow))
    obtain ⟨r2, m2, a2⟩ := int_at (rs := rs) (k := 2) (by omega)
    obtain ⟨r3, m3, a3⟩ := int_at (rs := rs) (k := 3) (by omega)
    refine ⟨_, rfl, p, rs, rfl, hR (Same.refl _), by omega, fun n h3 h12 => ?_⟩
    refine ⟨_, rfl, _, rfl, 4, rfl, p, _, rfl, hR (Same.refl _), fun q1 hq1 => ?_⟩
    have s1 : Same H1 _ := same_new (o := .lst (cutV (rs.map V.int) (some 4) none)) hq1
    have e1 : (upd H1 q1 (.lst (cutV (rs.map V.int) (some 4) none))) q1 = some (.lst ((rs.drop 4).map V.int)) := by rw [upd_same, show (4 : Int) = ((4 : Nat) : Int) from rfl, cut_ok]
    generalize upd H1 q1 (.lst (cutV (rs.map V.int) (some 4) none)) = H2 at *
    refine ⟨n, q1, rs.drop 4, rfl, h3, h12, .inl (.inl e1), by rw [List.length_drop]; omega, rowOk_drop hro 4, fun H3 o xs es s2 no ho hE hel hC => ?_⟩
    refine ⟨o, xs, es, rfl, ho, hE, by omega, fun H4 c ys s3 nc hc hY => ?_⟩
    have hC2 := isCut_perm hC (sort2_perm _)
    have hcl : ((sort2 (es.map earR)).length : Int) = n - 3 := by rw [sort2_len, List.length_map]; exact hel
    have hcs := sort2_sorted (es.map earR)
    generalize sort2 (es.map earR) = cut at *
    have s5 := (s1.trans s2).trans s3
    clear s1 e1 s2 no ho hE hel hC s3 nc
    refine ⟨_, rfl, _, rfl, 16, rfl, p, _, rfl, hR s5, fun q2 hq2 => ?_⟩
    have s6 : Same H4 _ := same_new (o := .lst (cutV (rs.map V.int) (some 16) none)) hq2
    have e6 : (upd H4 q2 (.lst (cutV (rs.map V.int) (some 16) none))) q2 = some (.lst ((rs.drop 16).map V.int)) := by rw [upd_same, show (16 : Int) = ((16 : Nat) : Int) from rfl, cut_ok]
    generalize upd H4 q2 (.lst (cutV (rs.map V.int) (some 16) none)) = H5 at *
    refine ⟨n, q2, rs.drop 16, rfl, h3, h12, .inl (.inl e6), by rw [List.length_drop]; omega, rowOk_drop hro 16, fun H6 o2 xs2 es2 s7 no2 ho2 hE2 hel2 hCo => ?_⟩
    refine ⟨o2, xs2, es2, rfl, ho2, hE2, by omega, fun H7 d zs s8 nd hd hZ => ?_⟩
    have hCo2 := isCut_perm hCo (sort2_perm _)
    have hdl : ((sort2 (es2.map earR)).length : Int) = n - 3 := by rw [sort2_len, List.length_map]; exact hel2
    have hds := sort2_sorted (es2.map earR)
    generalize sort2 (es2.map earR) = cut2 at *
    have s47 := (s6.trans s7).trans s8
    have s17 := s5.trans s47
    have hc7 := s47 _ _ hc
    have hY7 := hY.mono s47
    clear s6 e6 s7 no2 ho2 hE2 hel2 hCo s8 nd s47
    refine ⟨fun σ' H' => ∃ (d : Addr) (zs : List V) (cut2 : List (Int × Int)), σ' = [some (.ref a), some (.ref p), some (.int n), some (.ref c), some (.ref d), none, none, none, none] ∧ Same H7 H' ∧ H' d = some (.lst zs) ∧ PrL K H' zs cut2 ∧ IsCut n cut2 ∧ cut2.Pairwise le2 ∧ (cut2.length : Int) = n - 3, ?_, ?_⟩
    · refine ⟨_, rfl, p, _, _, _, rfl, rfl, hR s17, a2, _, _, rfl, rfl, (by show (0 : Int) < _; decide), rfl, _, rfl, ite2 (fun _ => ?_) (fun _ => ⟨d, zs, cut2, rfl, Same.refl _, hd, hZ, hCo2, hds, hdl⟩)⟩
      exact ⟨_, rfl, c, ys, rfl, .inl (.inl (.inl hc7)), fun e he => ⟨e, ys, cut, rfl, same_new he, upd_same, hY7.mono (same_new he), hC2, hcs, hcl⟩⟩
    rintro _ H8 ⟨d, zs, cut2, rfl, s78, hd, hZ, hCo2, hds, hdl⟩
    have s18 := s17.trans s78
    have hc8 := s78 _ _ hc7
    have hY8 := hY7.mono s78
    refine ⟨fun σ' H' => ∃ (d : Addr) (zs : List V) (cut2 : List (Int × Int)), σ' = [some (.ref a), some (.ref p), some (.int n), some (.ref c), some (.ref d), none, none, none, none] ∧ Same H8 H' ∧ H' d = some (.lst zs) ∧ PrL K H' zs cut2 ∧ IsCut n cut2 ∧ cut2.Pairwise le2 ∧ (cut2.length : Int) = n - 3, ?_, ?_⟩
    · refine ⟨_, rfl, p, _, _, _, rfl, rfl, hR s18, a2, _, _, rfl, rfl, (by show (0 : Int) < _; decide), rfl, _, rfl, ite2 (fun _ => ⟨_, rfl, _, _, rfl, rfl, _, rfl, ite2 (fun h4 => ?_) (fun _ => ?s1)⟩) (fun _ => ?s2)⟩
      case s1 | s2 => exact ⟨d, zs, cut2, rfl, Same.refl _, hd, hZ, hCo2, hds, hdl⟩
      have h4 : 3 < n := of_decide_eq_true h4
      have hyl := hY8.length
      have hb0 := Int.emod_nonneg r3 (show (ys.length : Int) ≠ 0 by omega)
      have hb1 := Int.emod_lt_of_pos r3 (show (0 : Int) < (ys.length : Int) by omega)
      obtain ⟨j, ej⟩ : ∃ j : Nat, r3 % (ys.length : Int) = (j : Int) := ⟨(r3 % (ys.length : Int)).toNat, by omega⟩
      have hjl : j < cut.length := by omega
      obtain ⟨u, eu, hu⟩ := hY8.at' (List.getElem?_eq_getElem hjl)
      have hem : cut[j] ∈ cut := List.getElem_mem hjl
      generalize cut[j] = e at *
      have hat : atI ys (r3 % (ys.length : Int)) = some u := by rw [ej]; exact atI_nat eu
      obtain ⟨x, y, hTu⟩ := turns hC2 hem
      refine ⟨_, rfl, _, rfl, _, rfl, _, rfl, p, _, _, _, rfl, rfl, hR s18, a3, _, rfl, c, _, rfl, .inl (.inl (.inl hc8)), _, _, rfl, rfl, (by show (0 : Int) < (ys.length : Int); omega), c, _, _, _, rfl, rfl, .inl (.inl hc8), hat, ?_⟩
      refine ⟨n, c, u, ys, cut, e, rfl, h3, h12, hc8, hY8, hu, by omega, hC2, hem, fun H9 g ys9 s9 _ hg hG => ?_⟩
      exact ⟨g, ys9, _, rfl, s9, hg, hG, hTu.isC, hTu.srt, by rw [hTu.len]; exact hcl⟩
    rintro _ H9 ⟨d, zs, cut2, rfl, s89, hd, hZ, hCo2, hds, hdl⟩
    have hc9 := s89 _ _ hc8
    have hY9 := hY8.mono s89
    have s09 : Same H H9 := (hs.trans s18).trans s89
    have hT9 : H9 (He.cT K bzM).2 = some (.tbl #[]) := s09 _ _ hT0
    clear hc7 hY7 hc8 hY8 s17 s18 s78 s89 s5 hc hY hR hrow s09
    have hyl := hY9.length
    have hzl := hZ.length
    refine ⟨_, rfl, c, ys, rfl, .inl (.inl (.inl hc9)), fun k1 hk1 => ?_⟩
    have t1 : Same H9 _ := same_new (o := .lst ys) hk1
    have ek1 : (upd H9 k1 (.lst ys)) k1 = some (.lst ys) := upd_same
    generalize upd H9 k1 (.lst ys) = HA at *
    refine ⟨_, rfl, d, zs, rfl, .inl (.inl (.inl (t1 _ _ hd))), fun k2 hk2 => ?_⟩
    have t2 : Same HA _ := same_new (o := .lst zs) hk2
    have ek2 : (upd HA k2 (.lst zs)) k2 = some (.lst zs) := upd_same
    generalize upd HA k2 (.lst zs) = HB at *
    refine ⟨small200 (by show 2 ≤ 200; decide), fun k3 hk3 => ?_⟩
    have t3 : Same HB _ := same_new (o := .lst [.ref k1, .ref k2]) hk3
    have ek3 : (upd HB k3 (.lst [.ref k1, .ref k2])) k3 = some (.lst [.ref k1, .ref k2]) := upd_same
    generalize upd HB k3 (.lst [.ref k1, .ref k2]) = HC at *
    have t13 := (t1.trans t2).trans t3
    have hk1C := (t2.trans t3) _ _ ek1
    have hk2C := t3 _ _ ek2
    have hcC := t13 _ _ hc9
    have hdC := t13 _ _ hd
    have hYC := hY9.mono t13
    have hZC := hZ.mono t13
    have hTC : LamX.Tabs [((He.cT K bzM).2, lamQ)] HC := fun p hp => by
      rw [List.mem_singleton.mp hp]
      exact LamX.TabS.nil (t13 _ _ hT9)
    refine ⟨_, rfl, _, rfl, k3, _, _, _, rfl, rfl, .inl (.inl ek3), atI_nat (j := 0) rfl, _, rfl, k3, _, _, _, rfl, rfl, .inl (.inl ek3), atI_nat (j := 1) rfl, ?_⟩
    refine ⟨n, k1, k2, ys, zs, cut, cut2, rfl, h3, h12, hk1C, hYC, hk2C, hZC, hC2, hcs, hcl, hCo2, hds, hdl, hTC, fun HD f ws ps eN _ _ hf hP hR hE h0 h18 haw => ?_⟩
    have ts : TupS HC HD := fun b xs e => eN b _ e (fun _ z => nomatch z)
    have hcD := eN _ _ hcC (fun _ z => nomatch z)
    have hdD := eN _ _ hdC (fun _ z => nomatch z)
    have hk1D := eN _ _ hk1C (fun _ z => nomatch z)
    have hk2D := eN _ _ hk2C (fun _ z => nomatch z)
    have hk3D := eN _ _ ek3 (fun _ z => nomatch z)
    have hYD := hYC.tups ts
    have hZD := hZC.tups ts
    have hwl := hP.length
    clear hT9 hTC eN ts hcC hdC hk1C hk2C ek3 hYC hZC t13 t1 t2 t3 ek1 ek2 hk1 hk2 hk3 hc9 hd hY9 hZ
    refine ⟨_, rfl, _, rfl, _, rfl, n, c, f, ys, ws, cut, ps, rfl, h3, h12, hcD, hYD, hf, hP, by omega, by omega, hC2, hR, fun HE e es sE he hES => ?_⟩
    rw [hE] at hES
    have hel' := hES.length
    refine ⟨_, rfl, rfl, _, rfl, ?_⟩
    rw [decide_eq_false (fun z => nomatch z)]
    refine iteF ?_
    refine ⟨_, rfl, _, rfl, e, d, es, zs, cut2, cut2, rfl, rfl, .inl (.inl he), hES, .inl (.inl (sE _ _ hdD)), hZD.mono sE, by omega, by omega, _, rfl, ?_⟩
    show if (!decide (cut2 = cut2)) = true then _ else _
    rw [decide_eq_true rfl]
    refine iteF ?_
    refine ⟨_, rfl, _, rfl, _, rfl, small200 (by show 2 ≤ 200; decide), fun k4 hk4 => ?_⟩
    have sF : Same HE _ := same_new (o := .lst [.ref c, .ref d]) hk4
    have ek4 : (upd HE k4 (.lst [.ref c, .ref d])) k4 = some (.lst [.ref c, .ref d]) := upd_same
    generalize upd HE k4 (.lst [.ref c, .ref d]) = HF at *
    have sDF := sE.trans sF
    have d1 : Dp K HF (.ref k3) (.list (tabP [cut, cut2])) := .lst (.inl (.inl (sDF _ _ hk3D))) (.cons (.lst (.inl (.inl (sDF _ _ hk1D))) (hYD.mono sDF).dp) (.cons (.lst (.inl (.inl (sDF _ _ hk2D))) (hZD.mono sDF).dp) .nil))
    have d2 : Dp K HF (.ref k4) (.list (tabP [cut, cut2])) := .lst (.inl (.inl ek4)) (.cons (.lst (.inl (.inl (sDF _ _ hcD))) (hYD.mono sDF).dp) (.cons (.lst (.inl (.inl (sDF _ _ hdD))) (hZD.mono sDF).dp) .nil))
    have sh : SeqAt.shaped (.list (tabP [cut, cut2])) = true := tabP_sh (by show 2 ≤ 20; decide) fun r hr => by
      rcases List.mem_cons.mp hr with z | hr
      · rw [z]; omega
      · rw [List.mem_singleton.mp hr]; omega
    refine ⟨_, _, d1, d2, sh, sh, ?_⟩
    rw [show PyData.eqv (.list (tabP [cut, cut2])) (.list (tabP [cut, cut2])) = true from (tabs_eqv _ _).trans (decide_eq_true rfl)]
    refine ⟨_, rfl, iteF ?_⟩
    have hcF := sDF _ _ hcD
    have hdF := sDF _ _ hdD
    have hfF := sDF _ _ hf
    have hYF := hYD.mono sDF
    have hZF := hZD.mono sDF
    clear d1 d2 sh ek4 sF sE hES he hcD hdD hk1D hk2D hk3D hf hYD hZD sDF hP hR hE
    refine ⟨_, rfl, _, rfl, c, d, ys, zs, cut, cut2, rfl, rfl, .inl (.inl hcF), hYF, .inl (.inl hdF), hZF, by omega, by omega, _, rfl, ?_⟩
    show if decide (cut = cut2) = true then _ else _
    by_cases elm : cut = cut2
    · rw [decide_eq_true elm]
      obtain rfl := h0 elm
      obtain rfl : ws = [] := List.eq_nil_of_length_eq_zero hwl
      refine iteT ⟨_, rfl, small200 (by show 0 ≤ 200; decide), fun k5 hk5 => ?_⟩
      exact ⟨f, k5, [], rfl, rfl, (same_new hk5) _ _ hfF, upd_same, q _⟩
    rw [decide_eq_false elm]
    refine iteF ?_
    refine ⟨_, rfl, n, rfl, by omega, by omega, for_range (lo := 0) (n := n.toNat) (fun i σ H' => ∃ y8 : Option V, σ = [some (.ref a), some (.ref p), some (.int n), some (.ref c), some (.ref d), some (.ref k3), some (.ref f), some (.ref e), y8] ∧ Same HF H') ⟨_, rfl, Same.refl _⟩ ?_ ?_⟩
    · rintro i σ H' hi ⟨y8, rfl, s2⟩
      refine ⟨_, rfl, f, _, rfl, .inl (.inl (.inl (s2 _ _ hfF))), _, rfl, _, rfl, c, ys, cut, 0 + (i : Int), rfl, s2 _ _ hcF, hYF.mono s2, by omega, fun HG sG => ?_⟩
      refine ⟨_, rfl, _, rfl, d, zs, cut2, 0 + (i : Int), rfl, (s2.trans sG) _ _ hdF, hZF.mono (s2.trans sG), by omega, fun HI sI => ?_⟩
      have h := haw (0 + (i : Int)) (by omega) (by omega)
      refine ⟨_, _, rfl, rfl, _, _, rfl, rfl, _, rfl, ?_⟩
      show if decide (((awayN (0 + (i : Int)) cut : Nat) : Int) + ((awayN (0 + (i : Int)) cut2 : Nat) : Int) < ((ws.length : Nat) : Int)) = true then _ else _
      rw [decide_eq_false (by omega)]
      exact iteF ⟨_, rfl, (s2.trans sG).trans sI⟩
    · rintro σ H' ⟨y8, rfl, _⟩
      exact q _

theorem all_mk {P : Program} {w : World} {K : PySem.W.Frag} {h : Heap} {mg : Str → Option Value} {fa : Addr} (X : K.In h) (G : h.Ns mainGlobals mg) (hfa : mg "law" = some (.ref fa)) (c0 : obsM K = valM)
    : ∃ fd : FuncData, (∀ (s : Shared) (v : Value), BindsTo s fd ⟨[v], []⟩ [("_law_script", v)]) ∧ ∀ base : Heap, K.In base → base.Ns mainGlobals mg → LamX.TabB base mg (He.cT K bzM).1 (He.cT K bzM).2 → FnOk P w K mg base CX0 10 fa fd ["_law_script"] (sp_law K) := by
  have c : falM.map (fun f => f K) = falM.map (fun _ => true) ∧ fnlM.map (fun d => He.fnObs K d.at_) = fnlM.map He.FnD.val := ⟨congrArg Prod.fst c0, congrArg Prod.snd c0⟩
  have e := hfa.symm.trans (PySem.W.mg_of X G (He.eqO_ok (fctM c.1 (f := faM110) (j := 110) rfl)))
  cases e
  obtain ⟨oc_pair_of, od_pair_of, osl_pair_of, kV_pair_of, doc_pair_of, pm_pair_of, an_pair_of, cd_pair_of, ct_pair_of, l_pair_of, c_pair_of⟩ := He.fn_ok (d := dM_pair_of) (fntM c.2 (d := dM_pair_of) (j := 0) rfl) (fctM c.1 (f := faM25) (j := 25) rfl)
  have l1_pair_of : K.lookup (He.ga K "pair_of") = some ⟨oc_pair_of, od_pair_of, .func (PySem.W.fnOf "pair_of" "pair_of" (defArgs s_pair_of) (defBody s_pair_of) (defScope s_pair_of) .none kV_pair_of doc_pair_of pm_pair_of an_pair_of cd_pair_of ct_pair_of), osl_pair_of⟩ := l_pair_of
  have F_pair_of := fun_mk (st := s_pair_of) l1_pair_of c_pair_of (fctM c.1 (f := faM24) (j := 24) rfl)
  obtain ⟨oc_sides, od_sides, osl_sides, kV_sides, doc_sides, pm_sides, an_sides, cd_sides, ct_sides, l_sides, c_sides⟩ := He.fn_ok (d := dM_sides) (fntM c.2 (d := dM_sides) (j := 1) rfl) (fctM c.1 (f := faM28) (j := 28) rfl)
  have l1_sides : K.lookup (He.ga K "sides") = some ⟨oc_sides, od_sides, .func (PySem.W.fnOf "sides" "sides" (defArgs s_sides) (defBody s_sides) (defScope s_sides) .none kV_sides doc_sides pm_sides an_sides cd_sides ct_sides), osl_sides⟩ := l_sides
  have F_sides := fun_mk (st := s_sides) l1_sides c_sides (fctM c.1 (f := faM27) (j := 27) rfl)
  obtain ⟨oc_ties, od_ties, osl_ties, kV_ties, doc_ties, pm_ties, an_ties, cd_ties, ct_ties, l_ties, c_ties⟩ := He.fn_ok (d := dM_ties) (fntM c.2 (d := dM_ties) (j := 2) rfl) (fctM c.1 (f := faM31) (j := 31) rfl)
  have l1_ties : K.lookup (He.ga K "ties") = some ⟨oc_ties, od_ties, .func (PySem.W.fnOf "ties" "ties" (defArgs s_ties) (defBody s_ties) (defScope s_ties) .none kV_ties doc_ties pm_ties an_ties cd_ties ct_ties), osl_ties⟩ := l_ties
  have F_ties := fun_mk (st := s_ties) l1_ties c_ties (fctM c.1 (f := faM30) (j := 30) rfl)
  obtain ⟨oc_beside, od_beside, osl_beside, kV_beside, doc_beside, pm_beside, an_beside, cd_beside, ct_beside, l_beside, c_beside⟩ := He.fn_ok (d := dM_beside) (fntM c.2 (d := dM_beside) (j := 3) rfl) (fctM c.1 (f := faM34) (j := 34) rfl)
  have l1_beside : K.lookup (He.ga K "beside") = some ⟨oc_beside, od_beside, .func (PySem.W.fnOf "beside" "beside" (defArgs s_beside) (defBody s_beside) (defScope s_beside) .none kV_beside doc_beside pm_beside an_beside cd_beside ct_beside), osl_beside⟩ := l_beside
  have F_beside := fun_mk (st := s_beside) l1_beside c_beside (fctM c.1 (f := faM33) (j := 33) rfl)
  obtain ⟨oc_new_rope, od_new_rope, osl_new_rope, kV_new_rope, doc_new_rope, pm_new_rope, an_new_rope, cd_new_rope, ct_new_rope, l_new_rope, c_new_rope⟩ := He.fn_ok (d := dM_new_rope) (fntM c.2 (d := dM_new_rope) (j := 4) rfl) (fctM c.1 (f := faM37) (j := 37) rfl)
  have l1_new_rope : K.lookup (He.ga K "new_rope") = some ⟨oc_new_rope, od_new_rope, .func (PySem.W.fnOf "new_rope" "new_rope" (defArgs s_new_rope) (defBody s_new_rope) (defScope s_new_rope) .none kV_new_rope doc_new_rope pm_new_rope an_new_rope cd_new_rope ct_new_rope), osl_new_rope⟩ := l_new_rope
  have F_new_rope := fun_mk (st := s_new_rope) l1_new_rope c_new_rope (fctM c.1 (f := faM36) (j := 36) rfl)
  obtain ⟨oc_turned, od_turned, osl_turned, kV_turned, doc_turned, pm_turned, an_turned, cd_turned, ct_turned, l_turned, c_turned⟩ := He.fn_ok (d := dM_turned) (fntM c.2 (d := dM_turned) (j := 5) rfl) (fctM c.1 (f := faM40) (j := 40) rfl)
  have l1_turned : K.lookup (He.ga K "turned") = some ⟨oc_turned, od_turned, .func (PySem.W.fnOf "turned" "turned" (defArgs s_turned) (defBody s_turned) (defScope s_turned) .none kV_turned doc_turned pm_turned an_turned cd_turned ct_turned), osl_turned⟩ := l_turned
  have F_turned := fun_mk (st := s_turned) l1_turned c_turned (fctM c.1 (f := faM39) (j := 39) rfl)
  obtain ⟨oc_road, od_road, osl_road, kV_road, doc_road, pm_road, an_road, cd_road, ct_road, l_road, c_road⟩ := He.fn_ok (d := dM_road) (fntM c.2 (d := dM_road) (j := 6) rfl) (fctM c.1 (f := faM43) (j := 43) rfl)
  have l1_road : K.lookup (He.ga K "road") = some ⟨oc_road, od_road, .func (PySem.W.fnOf "road" "road" (defArgs s_road) (defBody s_road) (defScope s_road) .none kV_road doc_road pm_road an_road cd_road ct_road), osl_road⟩ := l_road
  have F_road := fun_mk (st := s_road) l1_road c_road (fctM c.1 (f := faM42) (j := 42) rfl)
  obtain ⟨oc_fan_turnings, od_fan_turnings, osl_fan_turnings, kV_fan_turnings, doc_fan_turnings, pm_fan_turnings, an_fan_turnings, cd_fan_turnings, ct_fan_turnings, l_fan_turnings, c_fan_turnings⟩ := He.fn_ok (d := dM_fan_turnings) (fntM c.2 (d := dM_fan_turnings) (j := 7) rfl) (fctM c.1 (f := faM46) (j := 46) rfl)
  have l1_fan_turnings : K.lookup (He.ga K "fan_turnings") = some ⟨oc_fan_turnings, od_fan_turnings, .func (PySem.W.fnOf "fan_turnings" "fan_turnings" (defArgs s_fan_turnings) (defBody s_fan_turnings) (defScope s_fan_turnings) .none kV_fan_turnings doc_fan_turnings pm_fan_turnings an_fan_turnings cd_fan_turnings ct_fan_turnings), osl_fan_turnings⟩ := l_fan_turnings
  have F_fan_turnings := fun_mk (st := s_fan_turnings) l1_fan_turnings c_fan_turnings (fctM c.1 (f := faM45) (j := 45) rfl)
  obtain ⟨oc_rope_facing, od_rope_facing, osl_rope_facing, kV_rope_facing, doc_rope_facing, pm_rope_facing, an_rope_facing, cd_rope_facing, ct_rope_facing, l_rope_facing, c_rope_facing⟩ := He.fn_ok (d := dM_rope_facing) (fntM c.2 (d := dM_rope_facing) (j := 8) rfl) (fctM c.1 (f := faM49) (j := 49) rfl)
  have l1_rope_facing : K.lookup (He.ga K "rope_facing") = some ⟨oc_rope_facing, od_rope_facing, .func (PySem.W.fnOf "rope_facing" "rope_facing" (defArgs s_rope_facing) (defBody s_rope_facing) (defScope s_rope_facing) .none kV_rope_facing doc_rope_facing pm_rope_facing an_rope_facing cd_rope_facing ct_rope_facing), osl_rope_facing⟩ := l_rope_facing
  have F_rope_facing := fun_mk (st := s_rope_facing) l1_rope_facing c_rope_facing (fctM c.1 (f := faM48) (j := 48) rfl)
  obtain ⟨oc_busiest, od_busiest, osl_busiest, kV_busiest, doc_busiest, pm_busiest, an_busiest, cd_busiest, ct_busiest, l_busiest, c_busiest⟩ := He.fn_ok (d := dM_busiest) (fntM c.2 (d := dM_busiest) (j := 9) rfl) (fctM c.1 (f := faM52) (j := 52) rfl)
  have l1_busiest : K.lookup (He.ga K "busiest") = some ⟨oc_busiest, od_busiest, .func (PySem.W.fnOf "busiest" "busiest" (defArgs s_busiest) (defBody s_busiest) (defScope s_busiest) .none kV_busiest doc_busiest pm_busiest an_busiest cd_busiest ct_busiest), osl_busiest⟩ := l_busiest
  have F_busiest := fun_mk (st := s_busiest) l1_busiest c_busiest (fctM c.1 (f := faM51) (j := 51) rfl)
  obtain ⟨oc__law_flow, od__law_flow, osl__law_flow, kV__law_flow, doc__law_flow, pm__law_flow, an__law_flow, cd__law_flow, ct__law_flow, l__law_flow, c__law_flow⟩ := He.fn_ok (d := dM__law_flow) (fntM c.2 (d := dM__law_flow) (j := 10) rfl) (fctM c.1 (f := faM55) (j := 55) rfl)
  have l1__law_flow : K.lookup (He.ga K "_law_flow") = some ⟨oc__law_flow, od__law_flow, .func (PySem.W.fnOf "_law_flow" "_law_flow" (defArgs s__law_flow) (defBody s__law_flow) (defScope s__law_flow) .none kV__law_flow doc__law_flow pm__law_flow an__law_flow cd__law_flow ct__law_flow), osl__law_flow⟩ := l__law_flow
  have F__law_flow := fun_mk (st := s__law_flow) l1__law_flow c__law_flow (fctM c.1 (f := faM54) (j := 54) rfl)
  obtain ⟨oc__law_whole, od__law_whole, osl__law_whole, kV__law_whole, doc__law_whole, pm__law_whole, an__law_whole, cd__law_whole, ct__law_whole, l__law_whole, c__law_whole⟩ := He.fn_ok (d := dM__law_whole) (fntM c.2 (d := dM__law_whole) (j := 11) rfl) (fctM c.1 (f := faM58) (j := 58) rfl)
  have l1__law_whole : K.lookup (He.ga K "_law_whole") = some ⟨oc__law_whole, od__law_whole, .func (PySem.W.fnOf "_law_whole" "_law_whole" (defArgs s__law_whole) (defBody s__law_whole) (defScope s__law_whole) .none kV__law_whole doc__law_whole pm__law_whole an__law_whole cd__law_whole ct__law_whole), osl__law_whole⟩ := l__law_whole
  have F__law_whole := fun_mk (st := s__law_whole) l1__law_whole c__law_whole (fctM c.1 (f := faM57) (j := 57) rfl)
  obtain ⟨oc__law_many, od__law_many, osl__law_many, kV__law_many, doc__law_many, pm__law_many, an__law_many, cd__law_many, ct__law_many, l__law_many, c__law_many⟩ := He.fn_ok (d := dM__law_many) (fntM c.2 (d := dM__law_many) (j := 12) rfl) (fctM c.1 (f := faM61) (j := 61) rfl)
  have l1__law_many : K.lookup (He.ga K "_law_many") = some ⟨oc__law_many, od__law_many, .func (PySem.W.fnOf "_law_many" "_law_many" (defArgs s__law_many) (defBody s__law_many) (defScope s__law_many) .none kV__law_many doc__law_many pm__law_many an__law_many cd__law_many ct__law_many), osl__law_many⟩ := l__law_many
  have F__law_many := fun_mk (st := s__law_many) l1__law_many c__law_many (fctM c.1 (f := faM60) (j := 60) rfl)
  obtain ⟨oc__law_pair, od__law_pair, osl__law_pair, kV__law_pair, doc__law_pair, pm__law_pair, an__law_pair, cd__law_pair, ct__law_pair, l__law_pair, c__law_pair⟩ := He.fn_ok (d := dM__law_pair) (fntM c.2 (d := dM__law_pair) (j := 13) rfl) (fctM c.1 (f := faM64) (j := 64) rfl)
  have l1__law_pair : K.lookup (He.ga K "_law_pair") = some ⟨oc__law_pair, od__law_pair, .func (PySem.W.fnOf "_law_pair" "_law_pair" (defArgs s__law_pair) (defBody s__law_pair) (defScope s__law_pair) .none kV__law_pair doc__law_pair pm__law_pair an__law_pair cd__law_pair ct__law_pair), osl__law_pair⟩ := l__law_pair
  have F__law_pair := fun_mk (st := s__law_pair) l1__law_pair c__law_pair (fctM c.1 (f := faM63) (j := 63) rfl)
  obtain ⟨oc__law_ears, od__law_ears, osl__law_ears, kV__law_ears, doc__law_ears, pm__law_ears, an__law_ears, cd__law_ears, ct__law_ears, l__law_ears, c__law_ears⟩ := He.fn_ok (d := dM__law_ears) (fntM c.2 (d := dM__law_ears) (j := 14) rfl) (fctM c.1 (f := faM67) (j := 67) rfl)
  have l1__law_ears : K.lookup (He.ga K "_law_ears") = some ⟨oc__law_ears, od__law_ears, .func (PySem.W.fnOf "_law_ears" "_law_ears" (defArgs s__law_ears) (defBody s__law_ears) (defScope s__law_ears) .none kV__law_ears doc__law_ears pm__law_ears an__law_ears cd__law_ears ct__law_ears), osl__law_ears⟩ := l__law_ears
  have F__law_ears := fun_mk (st := s__law_ears) l1__law_ears c__law_ears (fctM c.1 (f := faM66) (j := 66) rfl)
  obtain ⟨oc__law_ropes, od__law_ropes, osl__law_ropes, kV__law_ropes, doc__law_ropes, pm__law_ropes, an__law_ropes, cd__law_ropes, ct__law_ropes, l__law_ropes, c__law_ropes⟩ := He.fn_ok (d := dM__law_ropes) (fntM c.2 (d := dM__law_ropes) (j := 15) rfl) (fctM c.1 (f := faM70) (j := 70) rfl)
  have l1__law_ropes : K.lookup (He.ga K "_law_ropes") = some ⟨oc__law_ropes, od__law_ropes, .func (PySem.W.fnOf "_law_ropes" "_law_ropes" (defArgs s__law_ropes) (defBody s__law_ropes) (defScope s__law_ropes) .none kV__law_ropes doc__law_ropes pm__law_ropes an__law_ropes cd__law_ropes ct__law_ropes), osl__law_ropes⟩ := l__law_ropes
  have F__law_ropes := fun_mk (st := s__law_ropes) l1__law_ropes c__law_ropes (fctM c.1 (f := faM69) (j := 69) rfl)
  obtain ⟨oc__law_sides, od__law_sides, osl__law_sides, kV__law_sides, doc__law_sides, pm__law_sides, an__law_sides, cd__law_sides, ct__law_sides, l__law_sides, c__law_sides⟩ := He.fn_ok (d := dM__law_sides) (fntM c.2 (d := dM__law_sides) (j := 16) rfl) (fctM c.1 (f := faM73) (j := 73) rfl)
  have l1__law_sides : K.lookup (He.ga K "_law_sides") = some ⟨oc__law_sides, od__law_sides, .func (PySem.W.fnOf "_law_sides" "_law_sides" (defArgs s__law_sides) (defBody s__law_sides) (defScope s__law_sides) .none kV__law_sides doc__law_sides pm__law_sides an__law_sides cd__law_sides ct__law_sides), osl__law_sides⟩ := l__law_sides
  have F__law_sides := fun_mk (st := s__law_sides) l1__law_sides c__law_sides (fctM c.1 (f := faM72) (j := 72) rfl)
  obtain ⟨oc__law_ties, od__law_ties, osl__law_ties, kV__law_ties, doc__law_ties, pm__law_ties, an__law_ties, cd__law_ties, ct__law_ties, l__law_ties, c__law_ties⟩ := He.fn_ok (d := dM__law_ties) (fntM c.2 (d := dM__law_ties) (j := 17) rfl) (fctM c.1 (f := faM76) (j := 76) rfl)
  have l1__law_ties : K.lookup (He.ga K "_law_ties") = some ⟨oc__law_ties, od__law_ties, .func (PySem.W.fnOf "_law_ties" "_law_ties" (defArgs s__law_ties) (defBody s__law_ties) (defScope s__law_ties) .none kV__law_ties doc__law_ties pm__law_ties an__law_ties cd__law_ties ct__law_ties), osl__law_ties⟩ := l__law_ties
  have F__law_ties := fun_mk (st := s__law_ties) l1__law_ties c__law_ties (fctM c.1 (f := faM75) (j := 75) rfl)
  obtain ⟨oc__law_beside, od__law_beside, osl__law_beside, kV__law_beside, doc__law_beside, pm__law_beside, an__law_beside, cd__law_beside, ct__law_beside, l__law_beside, c__law_beside⟩ := He.fn_ok (d := dM__law_beside) (fntM c.2 (d := dM__law_beside) (j := 18) rfl) (fctM c.1 (f := faM79) (j := 79) rfl)
  have l1__law_beside : K.lookup (He.ga K "_law_beside") = some ⟨oc__law_beside, od__law_beside, .func (PySem.W.fnOf "_law_beside" "_law_beside" (defArgs s__law_beside) (defBody s__law_beside) (defScope s__law_beside) .none kV__law_beside doc__law_beside pm__law_beside an__law_beside cd__law_beside ct__law_beside), osl__law_beside⟩ := l__law_beside
  have F__law_beside := fun_mk (st := s__law_beside) l1__law_beside c__law_beside (fctM c.1 (f := faM78) (j := 78) rfl)
  obtain ⟨oc__law_turned, od__law_turned, osl__law_turned, kV__law_turned, doc__law_turned, pm__law_turned, an__law_turned, cd__law_turned, ct__law_turned, l__law_turned, c__law_turned⟩ := He.fn_ok (d := dM__law_turned) (fntM c.2 (d := dM__law_turned) (j := 19) rfl) (fctM c.1 (f := faM82) (j := 82) rfl)
  have l1__law_turned : K.lookup (He.ga K "_law_turned") = some ⟨oc__law_turned, od__law_turned, .func (PySem.W.fnOf "_law_turned" "_law_turned" (defArgs s__law_turned) (defBody s__law_turned) (defScope s__law_turned) .none kV__law_turned doc__law_turned pm__law_turned an__law_turned cd__law_turned ct__law_turned), osl__law_turned⟩ := l__law_turned
  have F__law_turned := fun_mk (st := s__law_turned) l1__law_turned c__law_turned (fctM c.1 (f := faM81) (j := 81) rfl)
  obtain ⟨oc__law_tuple, od__law_tuple, osl__law_tuple, kV__law_tuple, doc__law_tuple, pm__law_tuple, an__law_tuple, cd__law_tuple, ct__law_tuple, l__law_tuple, c__law_tuple⟩ := He.fn_ok (d := dM__law_tuple) (fntM c.2 (d := dM__law_tuple) (j := 20) rfl) (fctM c.1 (f := faM85) (j := 85) rfl)
  have l1__law_tuple : K.lookup (He.ga K "_law_tuple") = some ⟨oc__law_tuple, od__law_tuple, .func (PySem.W.fnOf "_law_tuple" "_law_tuple" (defArgs s__law_tuple) (defBody s__law_tuple) (defScope s__law_tuple) .none kV__law_tuple doc__law_tuple pm__law_tuple an__law_tuple cd__law_tuple ct__law_tuple), osl__law_tuple⟩ := l__law_tuple
  have F__law_tuple := fun_mk (st := s__law_tuple) l1__law_tuple c__law_tuple (fctM c.1 (f := faM84) (j := 84) rfl)
  obtain ⟨oc__law_list, od__law_list, osl__law_list, kV__law_list, doc__law_list, pm__law_list, an__law_list, cd__law_list, ct__law_list, l__law_list, c__law_list⟩ := He.fn_ok (d := dM__law_list) (fntM c.2 (d := dM__law_list) (j := 21) rfl) (fctM c.1 (f := faM88) (j := 88) rfl)
  have l1__law_list : K.lookup (He.ga K "_law_list") = some ⟨oc__law_list, od__law_list, .func (PySem.W.fnOf "_law_list" "_law_list" (defArgs s__law_list) (defBody s__law_list) (defScope s__law_list) .none kV__law_list doc__law_list pm__law_list an__law_list cd__law_list ct__law_list), osl__law_list⟩ := l__law_list
  have F__law_list := fun_mk (st := s__law_list) l1__law_list c__law_list (fctM c.1 (f := faM87) (j := 87) rfl)
  obtain ⟨oc__law_walk, od__law_walk, osl__law_walk, kV__law_walk, doc__law_walk, pm__law_walk, an__law_walk, cd__law_walk, ct__law_walk, l__law_walk, c__law_walk⟩ := He.fn_ok (d := dM__law_walk) (fntM c.2 (d := dM__law_walk) (j := 22) rfl) (fctM c.1 (f := faM91) (j := 91) rfl)
  have l1__law_walk : K.lookup (He.ga K "_law_walk") = some ⟨oc__law_walk, od__law_walk, .func (PySem.W.fnOf "_law_walk" "_law_walk" (defArgs s__law_walk) (defBody s__law_walk) (defScope s__law_walk) .none kV__law_walk doc__law_walk pm__law_walk an__law_walk cd__law_walk ct__law_walk), osl__law_walk⟩ := l__law_walk
  have F__law_walk := fun_mk (st := s__law_walk) l1__law_walk c__law_walk (fctM c.1 (f := faM90) (j := 90) rfl)
  obtain ⟨oc__law_away, od__law_away, osl__law_away, kV__law_away, doc__law_away, pm__law_away, an__law_away, cd__law_away, ct__law_away, l__law_away, c__law_away⟩ := He.fn_ok (d := dM__law_away) (fntM c.2 (d := dM__law_away) (j := 23) rfl) (fctM c.1 (f := faM94) (j := 94) rfl)
  have l1__law_away : K.lookup (He.ga K "_law_away") = some ⟨oc__law_away, od__law_away, .func (PySem.W.fnOf "_law_away" "_law_away" (defArgs s__law_away) (defBody s__law_away) (defScope s__law_away) .none kV__law_away doc__law_away pm__law_away an__law_away cd__law_away ct__law_away), osl__law_away⟩ := l__law_away
  have F__law_away := fun_mk (st := s__law_away) l1__law_away c__law_away (fctM c.1 (f := faM93) (j := 93) rfl)
  obtain ⟨oc_law, od_law, osl_law, kV_law, doc_law, pm_law, an_law, cd_law, ct_law, l_law, c_law⟩ := He.fn_ok (d := dM_law) (fntM c.2 (d := dM_law) (j := 24) rfl) (fctM c.1 (f := faM97) (j := 97) rfl)
  have l1_law : K.lookup (He.ga K "law") = some ⟨oc_law, od_law, .func (PySem.W.fnOf "law" "law" (defArgs s_law) (defBody s_law) (defScope s_law) .none kV_law doc_law pm_law an_law cd_law ct_law), osl_law⟩ := l_law
  have F_law := fun_mk (st := s_law) l1_law c_law (fctM c.1 (f := faM96) (j := 96) rfl)
  let T : Env K mg := { C_MeadError := (He.ga K "MeadError"), c_MeadError := (PySem.W.mg_of X G (He.eqO_ok (fctM c.1 (f := faM8) (j := 8) rfl))), x_MeadError := (fctM c.1 (f := faM9) (j := 9) rfl), k_MeadError := (fctM c.1 (f := faM10) (j := 10) rfl), bs_MeadError := (of_decide_eq_true (fctM c.1 (f := faM0) (j := 0) rfl)), ty_MeadError := (of_decide_eq_true (fctM c.1 (f := faM11) (j := 11) rfl)), e_MeadError := ⟨(He.eqO_ok (fctM c.1 (f := faM1) (j := 1) rfl)), (He.eqO_ok (fctM c.1 (f := faM2) (j := 2) rfl)), (of_decide_eq_true (fctM c.1 (f := faM0) (j := 0) rfl)), (fctM c.1 (f := faM3) (j := 3) rfl), (He.eqO_ok (fctM c.1 (f := faM4) (j := 4) rfl)), (He.eqO_ok (fctM c.1 (f := faM5) (j := 5) rfl)), (of_decide_eq_true (fctM c.1 (f := faM6) (j := 6) rfl)), (of_decide_eq_true (fctM c.1 (f := faM7) (j := 7) rfl))⟩, C_NoRope := (He.ga K "NoRope"), c_NoRope := (PySem.W.mg_of X G (He.eqO_ok (fctM c.1 (f := faM20) (j := 20) rfl))), x_NoRope := (fctM c.1 (f := faM21) (j := 21) rfl), k_NoRope := (fctM c.1 (f := faM22) (j := 22) rfl), bs_NoRope := (of_decide_eq_true (fctM c.1 (f := faM12) (j := 12) rfl)), ty_NoRope := (of_decide_eq_true (fctM c.1 (f := faM23) (j := 23) rfl)), e_NoRope := ⟨(He.eqO_ok (fctM c.1 (f := faM13) (j := 13) rfl)), (He.eqO_ok (fctM c.1 (f := faM14) (j := 14) rfl)), (of_decide_eq_true (fctM c.1 (f := faM12) (j := 12) rfl)), (fctM c.1 (f := faM15) (j := 15) rfl), (He.eqO_ok (fctM c.1 (f := faM16) (j := 16) rfl)), (He.eqO_ok (fctM c.1 (f := faM17) (j := 17) rfl)), (of_decide_eq_true (fctM c.1 (f := faM18) (j := 18) rfl)), (of_decide_eq_true (fctM c.1 (f := faM19) (j := 19) rfl))⟩, a_pair_of := (He.ga K "pair_of"), fd_pair_of := _, F_pair_of := F_pair_of, g_pair_of := (PySem.W.mg_of X G (He.eqO_ok (fctM c.1 (f := faM26) (j := 26) rfl))), b_pair_of := F_pair_of.binds (ps := ["a", "b"]) fun _ _ _ _ _ _ us hl => match us, hl with | [_, _], _ => rfl, a_sides := (He.ga K "sides"), fd_sides := _, F_sides := F_sides, g_sides := (PySem.W.mg_of X G (He.eqO_ok (fctM c.1 (f := faM29) (j := 29) rfl))), b_sides := F_sides.binds (ps := ["n"]) fun _ _ _ _ _ _ us hl => match us, hl with | [_], _ => rfl, a_ties := (He.ga K "ties"), fd_ties := _, F_ties := F_ties, g_ties := (PySem.W.mg_of X G (He.eqO_ok (fctM c.1 (f := faM32) (j := 32) rfl))), b_ties := F_ties.binds (ps := ["n", "cut"]) fun _ _ _ _ _ _ us hl => match us, hl with | [_, _], _ => rfl, a_beside := (He.ga K "beside"), fd_beside := _, F_beside := F_beside, g_beside := (PySem.W.mg_of X G (He.eqO_ok (fctM c.1 (f := faM35) (j := 35) rfl))), b_beside := F_beside.binds (ps := ["n", "cut", "a", "b"]) fun _ _ _ _ _ _ us hl => match us, hl with | [_, _, _, _], _ => rfl, a_new_rope := (He.ga K "new_rope"), fd_new_rope := _, F_new_rope := F_new_rope, g_new_rope := (PySem.W.mg_of X G (He.eqO_ok (fctM c.1 (f := faM38) (j := 38) rfl))), b_new_rope := F_new_rope.binds (ps := ["n", "cut", "a", "b"]) fun _ _ _ _ _ _ us hl => match us, hl with | [_, _, _, _], _ => rfl, a_turned := (He.ga K "turned"), fd_turned := _, F_turned := F_turned, g_turned := (PySem.W.mg_of X G (He.eqO_ok (fctM c.1 (f := faM41) (j := 41) rfl))), b_turned := F_turned.binds (ps := ["n", "cut", "a", "b"]) fun _ _ _ _ _ _ us hl => match us, hl with | [_, _, _, _], _ => rfl, a_road := (He.ga K "road"), fd_road := _, F_road := F_road, g_road := (PySem.W.mg_of X G (He.eqO_ok (fctM c.1 (f := faM44) (j := 44) rfl))), b_road := F_road.binds (ps := ["n", "one", "other"]) fun _ _ _ _ _ _ us hl => match us, hl with | [_, _, _], _ => rfl, a_fan_turnings := (He.ga K "fan_turnings"), fd_fan_turnings := _, F_fan_turnings := F_fan_turnings, g_fan_turnings := (PySem.W.mg_of X G (He.eqO_ok (fctM c.1 (f := faM47) (j := 47) rfl))), b_fan_turnings := F_fan_turnings.binds (ps := ["n", "cut", "post"]) fun _ _ _ _ _ _ us hl => match us, hl with | [_, _, _], _ => rfl, a_rope_facing := (He.ga K "rope_facing"), fd_rope_facing := _, F_rope_facing := F_rope_facing, g_rope_facing := (PySem.W.mg_of X G (He.eqO_ok (fctM c.1 (f := faM50) (j := 50) rfl))), b_rope_facing := F_rope_facing.binds (ps := ["n", "cut", "post"]) fun _ _ _ _ _ _ us hl => match us, hl with | [_, _, _], _ => rfl, a_busiest := (He.ga K "busiest"), fd_busiest := _, F_busiest := F_busiest, g_busiest := (PySem.W.mg_of X G (He.eqO_ok (fctM c.1 (f := faM53) (j := 53) rfl))), b_busiest := F_busiest.binds (ps := ["n", "ropes"]) fun _ _ _ _ _ _ us hl => match us, hl with | [_, _], _ => rfl, a__law_flow := (He.ga K "_law_flow"), fd__law_flow := _, F__law_flow := F__law_flow, g__law_flow := (PySem.W.mg_of X G (He.eqO_ok (fctM c.1 (f := faM56) (j := 56) rfl))), b__law_flow := F__law_flow.binds (ps := ["_law_script", "_law_many_here"]) fun _ _ _ _ _ _ us hl => match us, hl with | [_, _], _ => rfl, a__law_whole := (He.ga K "_law_whole"), fd__law_whole := _, F__law_whole := F__law_whole, g__law_whole := (PySem.W.mg_of X G (He.eqO_ok (fctM c.1 (f := faM59) (j := 59) rfl))), b__law_whole := F__law_whole.binds (ps := ["_law_found"]) fun _ _ _ _ _ _ us hl => match us, hl with | [_], _ => rfl, a__law_many := (He.ga K "_law_many"), fd__law_many := _, F__law_many := F__law_many, g__law_many := (PySem.W.mg_of X G (He.eqO_ok (fctM c.1 (f := faM62) (j := 62) rfl))), b__law_many := F__law_many.binds (ps := ["_law_row"]) fun _ _ _ _ _ _ us hl => match us, hl with | [_], _ => rfl, a__law_pair := (He.ga K "_law_pair"), fd__law_pair := _, F__law_pair := F__law_pair, g__law_pair := (PySem.W.mg_of X G (He.eqO_ok (fctM c.1 (f := faM65) (j := 65) rfl))), b__law_pair := F__law_pair.binds (ps := ["_law_a", "_law_b"]) fun _ _ _ _ _ _ us hl => match us, hl with | [_, _], _ => rfl, a__law_ears := (He.ga K "_law_ears"), fd__law_ears := _, F__law_ears := F__law_ears, g__law_ears := (PySem.W.mg_of X G (He.eqO_ok (fctM c.1 (f := faM68) (j := 68) rfl))), b__law_ears := F__law_ears.binds (ps := ["_law_n", "_law_row"]) fun _ _ _ _ _ _ us hl => match us, hl with | [_, _], _ => rfl, a__law_ropes := (He.ga K "_law_ropes"), fd__law_ropes := _, F__law_ropes := F__law_ropes, g__law_ropes := (PySem.W.mg_of X G (He.eqO_ok (fctM c.1 (f := faM71) (j := 71) rfl))), b__law_ropes := F__law_ropes.binds (ps := ["_law_ears_here"]) fun _ _ _ _ _ _ us hl => match us, hl with | [_], _ => rfl, a__law_sides := (He.ga K "_law_sides"), fd__law_sides := _, F__law_sides := F__law_sides, g__law_sides := (PySem.W.mg_of X G (He.eqO_ok (fctM c.1 (f := faM74) (j := 74) rfl))), b__law_sides := F__law_sides.binds (ps := ["_law_n"]) fun _ _ _ _ _ _ us hl => match us, hl with | [_], _ => rfl, a__law_ties := (He.ga K "_law_ties"), fd__law_ties := _, F__law_ties := F__law_ties, g__law_ties := (PySem.W.mg_of X G (He.eqO_ok (fctM c.1 (f := faM77) (j := 77) rfl))), b__law_ties := F__law_ties.binds (ps := ["_law_n", "_law_cut"]) fun _ _ _ _ _ _ us hl => match us, hl with | [_, _], _ => rfl, a__law_beside := (He.ga K "_law_beside"), fd__law_beside := _, F__law_beside := F__law_beside, g__law_beside := (PySem.W.mg_of X G (He.eqO_ok (fctM c.1 (f := faM80) (j := 80) rfl))), b__law_beside := F__law_beside.binds (ps := ["_law_n", "_law_all_ties", "_law_a", "_law_b"]) fun _ _ _ _ _ _ us hl => match us, hl with | [_, _, _, _], _ => rfl, a__law_turned := (He.ga K "_law_turned"), fd__law_turned := _, F__law_turned := F__law_turned, g__law_turned := (PySem.W.mg_of X G (He.eqO_ok (fctM c.1 (f := faM83) (j := 83) rfl))), b__law_turned := F__law_turned.binds (ps := ["_law_n", "_law_cut", "_law_rope"]) fun _ _ _ _ _ _ us hl => match us, hl with | [_, _, _], _ => rfl, a__law_tuple := (He.ga K "_law_tuple"), fd__law_tuple := _, F__law_tuple := F__law_tuple, g__law_tuple := (PySem.W.mg_of X G (He.eqO_ok (fctM c.1 (f := faM86) (j := 86) rfl))), b__law_tuple := F__law_tuple.binds (ps := ["_law_found", "_law_many_here"]) fun _ _ _ _ _ _ us hl => match us, hl with | [_, _], _ => rfl, a__law_list := (He.ga K "_law_list"), fd__law_list := _, F__law_list := F__law_list, g__law_list := (PySem.W.mg_of X G (He.eqO_ok (fctM c.1 (f := faM89) (j := 89) rfl))), b__law_list := F__law_list.binds (ps := ["_law_found", "_law_many_here"]) fun _ _ _ _ _ _ us hl => match us, hl with | [_, _], _ => rfl, a__law_walk := (He.ga K "_law_walk"), fd__law_walk := _, F__law_walk := F__law_walk, g__law_walk := (PySem.W.mg_of X G (He.eqO_ok (fctM c.1 (f := faM92) (j := 92) rfl))), b__law_walk := F__law_walk.binds (ps := ["_law_n", "_law_cut", "_law_found"]) fun _ _ _ _ _ _ us hl => match us, hl with | [_, _, _], _ => rfl, a__law_away := (He.ga K "_law_away"), fd__law_away := _, F__law_away := F__law_away, g__law_away := (PySem.W.mg_of X G (He.eqO_ok (fctM c.1 (f := faM95) (j := 95) rfl))), b__law_away := F__law_away.binds (ps := ["_law_cut", "_law_post"]) fun _ _ _ _ _ _ us hl => match us, hl with | [_, _], _ => rfl, a_law := (He.ga K "law"), fd_law := _, F_law := F_law, g_law := (PySem.W.mg_of X G (He.eqO_ok (fctM c.1 (f := faM98) (j := 98) rfl))), b_law := F_law.binds (ps := ["_law_script"]) fun _ _ _ _ _ _ us hl => match us, hl with | [_], _ => rfl, m_abs := PySem.W.mg_none_of X G (He.eqO_ok (fctM c.1 (f := faM99) (j := 99) rfl)), m_bool := PySem.W.mg_none_of X G (He.eqO_ok (fctM c.1 (f := faM100) (j := 100) rfl)), m_int := PySem.W.mg_none_of X G (He.eqO_ok (fctM c.1 (f := faM101) (j := 101) rfl)), m_isinstance := PySem.W.mg_none_of X G (He.eqO_ok (fctM c.1 (f := faM102) (j := 102) rfl)), m_len := PySem.W.mg_none_of X G (He.eqO_ok (fctM c.1 (f := faM103) (j := 103) rfl)), m_list := PySem.W.mg_none_of X G (He.eqO_ok (fctM c.1 (f := faM104) (j := 104) rfl)), m_max := PySem.W.mg_none_of X G (He.eqO_ok (fctM c.1 (f := faM105) (j := 105) rfl)), m_min := PySem.W.mg_none_of X G (He.eqO_ok (fctM c.1 (f := faM106) (j := 106) rfl)), m_range := PySem.W.mg_none_of X G (He.eqO_ok (fctM c.1 (f := faM107) (j := 107) rfl)), m_sorted := PySem.W.mg_none_of X G (He.eqO_ok (fctM c.1 (f := faM108) (j := 108) rfl)), m_tuple := PySem.W.mg_none_of X G (He.eqO_ok (fctM c.1 (f := faM109) (j := 109) rfl)) }
  exact ⟨PySem.W.fnOf "law" "law" (defArgs s_law) (defBody s_law) (defScope s_law) .none kV_law doc_law pm_law an_law cd_law ct_law, fun s v => .of_eq rfl, fun base _ _ tb => by have qa : T.a_busiest = He.fAd K bzM := rfl; exact ok_law T tb qa⟩
end
end My
open PySem PySem.W PySem.Calls PyProof.Rows
set_option maxRecDepth 100000 in
set_option maxHeartbeats 0 in
theorem PySem.Challenge.cw_postmead_k17_whole_roads_lead_holds : PySem.Challenge.rw_postmead_k17_whole_roads_lead.Holds := by
  w_on; o_law
  refine HandSHeadRun.head_imp (r := OpenLaw.row PySem.Challenge.rw_postmead_k17_whole_roads_lead) (q := view (OpenLaw.row PySem.Challenge.rw_postmead_k17_whole_roads_lead).prog [31]) (H := My.hkM) (ob := My.obM) (M := 9000) (loose := My.looM) (d := HandSHeadRun.topDef (OpenLaw.row PySem.Challenge.rw_postmead_k17_whole_roads_lead).prog 31) (kwd := []) My.obM_eq
    My.runM (by kernel_rfl) (by kernel_rfl) (by kernel_rfl) (by rfl) (by first | assumption | decide +kernel) (by decide +kernel) ⟨rfl, rfl, rfl, rfl, rfl, by decide +kernel⟩ ?hw ?hc
  case hw => w_witness2
  case hc =>
    refine My.walk_ofTE (l := PySem.Challenge.rw_postmead_k17_whole_roads_lead) (n := 63) (k := 10) (x := "_law_script") (CX := L2.CX0) rfl (by decide) (by kernel_rfl) ⟨rfl, by decide, by decide⟩ ?F (fun _ _ _ _ z => z)
    intro w mg fa h Y G hmg0
    obtain ⟨K, KX, c⟩ := Y
    have hmg : mg ("law" : PySem.Str) = some (.ref fa) := by
      have e : (HandSHeadRun.topDef (OpenLaw.row PySem.Challenge.rw_postmead_k17_whole_roads_lead).prog 31).name = ("law" : PySem.Str) := by kernel_rfl
      rw [← e]
      exact hmg0
    obtain ⟨fd, hb, hF⟩ := My.all_mk (P := (OpenLaw.row PySem.Challenge.rw_postmead_k17_whole_roads_lead).prog) (w := w) KX G hmg c.c
    exact ⟨K, fd, My.sp_law K, [He.cT K My.bzM], KX, (fun p hp => by rw [List.mem_singleton.mp hp]; exact c.empty), (fun p hp => by rw [List.mem_singleton.mp hp]; exact c.out), (fun p hp => by rw [List.mem_singleton.mp hp]; exact PySem.W.codeHd_of_K KX c.hd), hb, fun H a ns hl hT hS => ⟨a, ns, rfl, hT _ List.mem_cons_self, hS, hl, fun _ => rfl⟩, fun base h1 h2 h3 => hF base h1 h2 (h3 _ List.mem_cons_self)⟩
#print axioms PySem.Challenge.cw_postmead_k17_whole_roads_lead_holds
