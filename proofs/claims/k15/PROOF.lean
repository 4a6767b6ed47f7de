import PyProof.Rows.All
import Wide.All
import OpenK.AllK
import Wide.FinOn
import HandS.ForMost
import HandS.ForExc
import HandS.Wide
import HandS.Gcd
import HandS.IsInst
import HandS.ExcIs
import HandS.Codes
import HandS.SortRule
import HandS.Deep
import KE.DataMinMax
import HandS.Conv
import HandS.DictComp
import PySem.Challenge.RW_postmead_k15_numbers_in_order
set_option Elab.async false
set_option linter.all false
set_option maxRecDepth 100000
set_option maxHeartbeats 4000000
namespace My
open PySem PySem.Spec PyProof.Rows L2
/-! ### readings: small steps -/
local macro_rules | `(tactic| walk_at "rd") => `(tactic| repeat (first
  | refine ⟨_, rfl, ?_⟩
  | refine ⟨_, _, rfl, rfl, ?_⟩
  | refine ⟨.inr ⟨by decide, by decide⟩, ?_⟩
  | refine ⟨by decide, ?_⟩))
theorem op_fdivX {X : Cx} : OpR X (binaryOp .FloorDiv) (rI (fun _ j => j ≠ 0 ∧ j.natAbs.log2 < 9000) fun i j => .int (i.fdiv j)) :=
  opI fun _ _ _ _ _ _ _ hc q => floordiv_int hc.1 q (.inl (PyProof.noPylong_of_log2 hc.2))
theorem op_mulU {X : Cx} : OpR X (binaryOp .Mult) (rI IntMulOk fun i j => .int (i * j)) := opI fun _ _ _ _ _ _ _ hc q => mul_int q hc
theorem mulL {i j : Int} (h0 : -(2 ^ 64) < i) (h1 : i < 2 ^ 64) : IntMulOk i j := CMul.ok (.inl ⟨h0, h1⟩)
theorem mulR {i j : Int} (h0 : -(2 ^ 64) < j) (h1 : j < 2 ^ 64) : IntMulOk i j := CMul.ok (.inr ⟨h0, h1⟩)
theorem nd {p : Prop} [Decidable p] (h : ¬ decide p = true) : ¬ p := fun hp => h (decide_eq_true hp)
theorem zc_of {cls : Value} {d : Option Addr} {C : Addr} {oe : Obj} (h : Zc cls d oe) (e : cls = .ref C ∧ d = none) : Zc (.ref C) none oe := by
  obtain ⟨e1, e2⟩ := e
  rw [← e1, ← e2]
  exact h
theorem same_new {H : Hp} {p : Addr} {o : HO} (h : H p = none) : Same H (upd H p o) := fun b x e => by
  rw [upd_ne (ne_of_none e h)]
  exact e
theorem same_put {H H' : Hp} {p : Addr} {o : HO} (s : Same H H') (h : H p = none) : Same H (upd H' p o) := fun b x e => by
  rw [upd_ne (ne_of_none e h)]
  exact s _ _ e
theorem log_small {n b : Nat} (h0 : 0 < b) (h : n < 2 ^ b) (h9 : b ≤ 9000) : n.log2 < 9000 := Nat.lt_of_lt_of_le (PySem.Flt.log2_lt_of h0 h) h9
theorem pss_guard {X : Cx} {b : List Stmt} {t : TS} {P : Prop} (h : P → PSs X b t) : PSs X b (fun D σ H => P ∧ t D σ H) :=
  ⟨fun pins s σ H D I q => (h q.1).run pins s σ H D I q.2⟩
def topS (i : Nat) : Stmt := PySem.Challenge.pw_postmead_k15_numbers_in_order.main.body.getD i (.Pass ⟨0, 0, 0, 0⟩)
abbrev s_sides : Stmt := topS 1
theorem sc_sides : FnScope ["n", "post"] ["n"] (defScope s_sides) := ⟨rfl, rfl, rfl, by decide +kernel, rfl, by decide +kernel, by decide +kernel⟩
abbrev s_ties : Stmt := topS 2
theorem sc_ties : FnScope ["n", "cut"] ["n", "cut"] (defScope s_ties) := ⟨rfl, rfl, rfl, by decide +kernel, rfl, by decide +kernel, by decide +kernel⟩
abbrev s_how_many : Stmt := topS 4
theorem sc_how_many : FnScope ["n", "many", "posts"] ["n"] (defScope s_how_many) := ⟨rfl, rfl, rfl, by decide +kernel, rfl, by decide +kernel, by decide +kernel⟩
abbrev s_number_of : Stmt := topS 5
theorem sc_number_of : FnScope ["n", "cut", "tied", "tie"] ["n", "cut"] (defScope s_number_of) := ⟨rfl, rfl, rfl, by decide +kernel, rfl, by decide +kernel, by decide +kernel⟩
abbrev s_part_number : Stmt := topS 6
theorem sc_part_number : FnScope ["tied", "low", "high", "number", "middle", "lower", "upper"] ["tied", "low", "high"] (defScope s_part_number) := ⟨rfl, rfl, rfl, by decide +kernel, rfl, by decide +kernel, by decide +kernel⟩
abbrev s_with_middle : Stmt := topS 7
theorem sc_with_middle : FnScope ["low", "middle", "high"] ["low", "middle", "high"] (defScope s_with_middle) := ⟨rfl, rfl, rfl, by decide +kernel, rfl, by decide +kernel, by decide +kernel⟩
abbrev s_part_count : Stmt := topS 8
theorem sc_part_count : FnScope ["low", "high"] ["low", "high"] (defScope s_part_count) := ⟨rfl, rfl, rfl, by decide +kernel, rfl, by decide +kernel, by decide +kernel⟩
abbrev s__law_flow : Stmt := topS 10
theorem sc__law_flow : FnScope ["_law_script", "_law_many", "_law_great", "_law_row", "_law_k", "_law_cell", "_law_mixed"] ["_law_script", "_law_many"] (defScope s__law_flow) := ⟨rfl, rfl, rfl, by decide +kernel, rfl, by decide +kernel, by decide +kernel⟩
abbrev s__law_whole : Stmt := topS 11
theorem sc__law_whole : FnScope ["_law_found"] ["_law_found"] (defScope s__law_whole) := ⟨rfl, rfl, rfl, by decide +kernel, rfl, by decide +kernel, by decide +kernel⟩
abbrev s__law_pair : Stmt := topS 12
theorem sc__law_pair : FnScope ["_law_a", "_law_b"] ["_law_a", "_law_b"] (defScope s__law_pair) := ⟨rfl, rfl, rfl, by decide +kernel, rfl, by decide +kernel, by decide +kernel⟩
abbrev s__law_ears : Stmt := topS 13
theorem sc__law_ears : FnScope ["_law_n", "_law_row", "_law_k", "_law_left", "_law_ears_here"] ["_law_n", "_law_row"] (defScope s__law_ears) := ⟨rfl, rfl, rfl, by decide +kernel, rfl, by decide +kernel, by decide +kernel⟩
abbrev s__law_ropes : Stmt := topS 14
theorem sc__law_ropes : FnScope ["_law_ears_here", "_law_ear"] ["_law_ears_here"] (defScope s__law_ropes) := ⟨rfl, rfl, rfl, by decide +kernel, rfl, by decide +kernel, by decide +kernel⟩
abbrev s__law_sides : Stmt := topS 15
theorem sc__law_sides : FnScope ["_law_n", "_law_k"] ["_law_n"] (defScope s__law_sides) := ⟨rfl, rfl, rfl, by decide +kernel, rfl, by decide +kernel, by decide +kernel⟩
abbrev s__law_ties : Stmt := topS 16
theorem sc__law_ties : FnScope ["_law_n", "_law_cut"] ["_law_n", "_law_cut"] (defScope s__law_ties) := ⟨rfl, rfl, rfl, by decide +kernel, rfl, by decide +kernel, by decide +kernel⟩
abbrev s__law_beside : Stmt := topS 17
theorem sc__law_beside : FnScope ["_law_n", "_law_all_ties", "_law_a", "_law_b", "_law_found", "_law_post"] ["_law_n", "_law_all_ties", "_law_a", "_law_b"] (defScope s__law_beside) := ⟨rfl, rfl, rfl, by decide +kernel, rfl, by decide +kernel, by decide +kernel⟩
abbrev s__law_turned : Stmt := topS 18
theorem sc__law_turned : FnScope ["_law_n", "_law_cut", "_law_rope", "_law_ends", "_law_one"] ["_law_n", "_law_cut", "_law_rope"] (defScope s__law_turned) := ⟨rfl, rfl, rfl, by decide +kernel, rfl, by decide +kernel, by decide +kernel⟩
abbrev s__law_tied : Stmt := topS 19
theorem sc__law_tied : FnScope ["_law_low", "_law_high", "_law_cut"] ["_law_low", "_law_high", "_law_cut"] (defScope s__law_tied) := ⟨rfl, rfl, rfl, by decide +kernel, rfl, by decide +kernel, by decide +kernel⟩
abbrev s__law_middle : Stmt := topS 20
theorem sc__law_middle : FnScope ["_law_low", "_law_high", "_law_cut", "_law_post"] ["_law_low", "_law_high", "_law_cut"] (defScope s__law_middle) := ⟨rfl, rfl, rfl, by decide +kernel, rfl, by decide +kernel, by decide +kernel⟩
abbrev s__law_order : Stmt := topS 21
theorem sc__law_order : FnScope ["_law_low", "_law_high", "_law_one", "_law_other", "_law_a", "_law_b", "_law_lower"] ["_law_low", "_law_high", "_law_one", "_law_other"] (defScope s__law_order) := ⟨rfl, rfl, rfl, by decide +kernel, rfl, by decide +kernel, by decide +kernel⟩
abbrev s_law : Stmt := topS 22
theorem sc_law : FnScope ["_law_script", "_law_row", "_law_n", "_law_one", "_law_other", "_law_handed", "_law_a", "_law_b", "_law_due"] ["_law_script"] (defScope s_law) := ⟨rfl, rfl, rfl, by decide +kernel, rfl, by decide +kernel, by decide +kernel⟩
structure Env (K : PySem.W.Frag) (mg : Str → Option Value) where
  a_sides : Addr
  fd_sides : FuncData
  F_sides : Fun K "sides" "sides" s_sides a_sides fd_sides
  g_sides : mg "sides" = some (.ref a_sides)
  b_sides : Binds K fd_sides ["n"] []
  a_ties : Addr
  fd_ties : FuncData
  F_ties : Fun K "ties" "ties" s_ties a_ties fd_ties
  g_ties : mg "ties" = some (.ref a_ties)
  b_ties : Binds K fd_ties ["n", "cut"] []
  a_how_many : Addr
  fd_how_many : FuncData
  F_how_many : Fun K "how_many" "how_many" s_how_many a_how_many fd_how_many
  g_how_many : mg "how_many" = some (.ref a_how_many)
  b_how_many : Binds K fd_how_many ["n"] []
  a_number_of : Addr
  fd_number_of : FuncData
  F_number_of : Fun K "number_of" "number_of" s_number_of a_number_of fd_number_of
  g_number_of : mg "number_of" = some (.ref a_number_of)
  b_number_of : Binds K fd_number_of ["n", "cut"] []
  a_part_number : Addr
  fd_part_number : FuncData
  F_part_number : Fun K "part_number" "part_number" s_part_number a_part_number fd_part_number
  g_part_number : mg "part_number" = some (.ref a_part_number)
  b_part_number : Binds K fd_part_number ["tied", "low", "high"] []
  a_with_middle : Addr
  fd_with_middle : FuncData
  F_with_middle : Fun K "with_middle" "with_middle" s_with_middle a_with_middle fd_with_middle
  g_with_middle : mg "with_middle" = some (.ref a_with_middle)
  b_with_middle : Binds K fd_with_middle ["low", "middle", "high"] []
  a_part_count : Addr
  fd_part_count : FuncData
  F_part_count : Fun K "part_count" "part_count" s_part_count a_part_count fd_part_count
  g_part_count : mg "part_count" = some (.ref a_part_count)
  b_part_count : Binds K fd_part_count ["low", "high"] []
  a__law_flow : Addr
  fd__law_flow : FuncData
  F__law_flow : Fun K "_law_flow" "_law_flow" s__law_flow a__law_flow fd__law_flow
  g__law_flow : mg "_law_flow" = some (.ref a__law_flow)
  b__law_flow : Binds K fd__law_flow ["_law_script", "_law_many"] []
  a__law_whole : Addr
  fd__law_whole : FuncData
  F__law_whole : Fun K "_law_whole" "_law_whole" s__law_whole a__law_whole fd__law_whole
  g__law_whole : mg "_law_whole" = some (.ref a__law_whole)
  b__law_whole : Binds K fd__law_whole ["_law_found"] []
  a__law_pair : Addr
  fd__law_pair : FuncData
  F__law_pair : Fun K "_law_pair" "_law_pair" s__law_pair a__law_pair fd__law_pair
  g__law_pair : mg "_law_pair" = some (.ref a__law_pair)
  b__law_pair : Binds K fd__law_pair ["_law_a", "_law_b"] []
  a__law_ears : Addr
  fd__law_ears : FuncData
  F__law_ears : Fun K "_law_ears" "_law_ears" s__law_ears a__law_ears fd__law_ears
  g__law_ears : mg "_law_ears" = some (.ref a__law_ears)
  b__law_ears : Binds K fd__law_ears ["_law_n", "_law_row"] []
  a__law_ropes : Addr
  fd__law_ropes : FuncData
  F__law_ropes : Fun K "_law_ropes" "_law_ropes" s__law_ropes a__law_ropes fd__law_ropes
  g__law_ropes : mg "_law_ropes" = some (.ref a__law_ropes)
  b__law_ropes : Binds K fd__law_ropes ["_law_ears_here"] []
  a__law_sides : Addr
  fd__law_sides : FuncData
  F__law_sides : Fun K "_law_sides" "_law_sides" s__law_sides a__law_sides fd__law_sides
  g__law_sides : mg "_law_sides" = some (.ref a__law_sides)
  b__law_sides : Binds K fd__law_sides ["_law_n"] []
  a__law_ties : Addr
  fd__law_ties : FuncData
  F__law_ties : Fun K "_law_ties" "_law_ties" s__law_ties a__law_ties fd__law_ties
  g__law_ties : mg "_law_ties" = some (.ref a__law_ties)
  b__law_ties : Binds K fd__law_ties ["_law_n", "_law_cut"] []
  a__law_beside : Addr
  fd__law_beside : FuncData
  F__law_beside : Fun K "_law_beside" "_law_beside" s__law_beside a__law_beside fd__law_beside
  g__law_beside : mg "_law_beside" = some (.ref a__law_beside)
  b__law_beside : Binds K fd__law_beside ["_law_n", "_law_all_ties", "_law_a", "_law_b"] []
  a__law_turned : Addr
  fd__law_turned : FuncData
  F__law_turned : Fun K "_law_turned" "_law_turned" s__law_turned a__law_turned fd__law_turned
  g__law_turned : mg "_law_turned" = some (.ref a__law_turned)
  b__law_turned : Binds K fd__law_turned ["_law_n", "_law_cut", "_law_rope"] []
  a__law_tied : Addr
  fd__law_tied : FuncData
  F__law_tied : Fun K "_law_tied" "_law_tied" s__law_tied a__law_tied fd__law_tied
  g__law_tied : mg "_law_tied" = some (.ref a__law_tied)
  b__law_tied : Binds K fd__law_tied ["_law_low", "_law_high", "_law_cut"] []
  a__law_middle : Addr
  fd__law_middle : FuncData
  F__law_middle : Fun K "_law_middle" "_law_middle" s__law_middle a__law_middle fd__law_middle
  g__law_middle : mg "_law_middle" = some (.ref a__law_middle)
  b__law_middle : Binds K fd__law_middle ["_law_low", "_law_high", "_law_cut"] []
  a__law_order : Addr
  fd__law_order : FuncData
  F__law_order : Fun K "_law_order" "_law_order" s__law_order a__law_order fd__law_order
  g__law_order : mg "_law_order" = some (.ref a__law_order)
  b__law_order : Binds K fd__law_order ["_law_low", "_law_high", "_law_one", "_law_other"] []
  a_law : Addr
  fd_law : FuncData
  F_law : Fun K "law" "law" s_law a_law fd_law
  g_law : mg "law" = some (.ref a_law)
  b_law : Binds K fd_law ["_law_script"] []
  m_abs : mg "abs" = none
  m_bool : mg "bool" = none
  m_int : mg "int" = none
  m_isinstance : mg "isinstance" = none
  m_len : mg "len" = none
  m_list : mg "list" = none
  m_max : mg "max" = none
  m_min : mg "min" = none
  m_range : mg "range" = none
  m_sorted : mg "sorted" = none
section
variable {P : Program} {w : World} {K : PySem.W.Frag} {mg : Str → Option Value} {base : Heap}

/-! ### the row of numbers that the script makes -/
def rowOk (rs : List Int) : Prop := ∀ v ∈ rs, 0 ≤ v ∧ v < 1000000
theorem rowOk_nil : rowOk [] := fun _ h => by cases h
theorem rowOk_add {rs : List Int} {v : Int} (h : rowOk rs) (h0 : 0 ≤ v) (h1 : v < 1000000) : rowOk (rs ++ [v]) := fun x hx => by
  rcases List.mem_append.mp hx with q | q
  · exact h x q
  · rw [List.mem_singleton.mp q]
    exact ⟨h0, h1⟩
def sp_flow (K : PySem.W.Frag) : Sp := fun vs H Q _ => ∃ (a : Addr) (ns : List Int) (m : Int), vs = [.ref a, .int m] ∧ SqL K H a (ns.map V.int) ∧ ns.length ≤ 63 ∧ 0 ≤ m ∧ m ≤ 1000 ∧
  ∀ H' p (rs : List Int), Same H H' → H p = none → rs.length = m.toNat → rowOk rs → H' p = some (.lst (rs.map V.int)) → Q (.ref p) H'
def flowInv (a : Addr) (m : Int) (p : Addr) (H : Hp) : Nat → L2.St → Hp → Prop := fun i σ H' => ∃ (g : Int) (rs : List Int) (k c x : Option V),
  σ = [some (.ref a), some (.int m), some (.int g), some (.ref p), k, c, x] ∧ Same H H' ∧ H' p = some (.lst (rs.map V.int)) ∧ rs.length = i ∧ rowOk rs
theorem mod_in (x : Int) : 0 ≤ x % 1000000 ∧ x % 1000000 < 1000000 := ⟨Int.emod_nonneg _ (by decide), Int.emod_lt_of_pos _ (by decide)⟩
theorem flow_turn {a p : Addr} {m g z : Int} {H H' : Hp} {i : Nat} {rs : List Int} {k c x : Option V} (hs : Same H H') (hp : H p = none) (hrl : rs.length = i) (hro : rowOk rs) :
    flowInv a m p H (i + 1) [some (.ref a), some (.int m), some (.int g), some (.ref p), k, c, x] (upd H' p (.lst (rs.map V.int ++ [V.int (z % 1000000)]))) := by
  refine ⟨g, rs ++ [z % 1000000], k, c, x, rfl, same_put hs hp, ?_, by rw [List.length_append, hrl]; rfl, rowOk_add hro (mod_in z).1 (mod_in z).2⟩
  rw [upd_same, List.map_append]; rfl
theorem mod_at {ns : List Int} (h : 0 < ns.length) (k : Nat) : ∃ z, atI (ns.map V.int) ((k : Int) % (ns.length : Int)) = some (.int z) := by
  have hk : k % ns.length < ns.length := Nat.mod_lt _ h
  refine ⟨ns[k % ns.length], ?_⟩
  rw [← Int.natCast_emod]
  refine atI_nat ?_
  rw [List.getElem?_map, List.getElem?_eq_getElem hk]
  rfl
theorem ok__law_flow (T : Env K mg) : FnOk P w K mg base CX0 1 T.a__law_flow T.fd__law_flow ["_law_script", "_law_many"] (sp_flow K) := by
  refine T.F__law_flow.ok sc__law_flow (fun vs H Q E h => ?_) (fun cdv A outer s H vs Q E hr h => ?_)
  · obtain ⟨a, ns, m, rfl, _⟩ := h
    rfl
  · obtain ⟨a, ns, m, rfl, hS, hl, hm0, hm1, q⟩ := h
    refine ⟨_, (pss_cons (ps_set (i := 2) sc__law_flow.nd rfl (.inl rfl) pe_int)
 (C8.pss_cut (ps_if (PW.pt (pw_and (pt_cmpR op_gt (pe_callB call_len_seq (by rfl) T.m_len (by decide +kernel) (pa_cons (pv 0) pa_nil)) pe_int (nomark _)) (pw_and1 (pt_cmpR op_ge (pe_callB call_abs (by rfl) T.m_abs (by decide +kernel) (pa_cons (pe_ix ix_list (pv 0) pe_int (fun _ _ => rfl)) pa_nil)) (pe_op op_pow pe_int pe_int) (nomark _)))))
 (pss_one (ps_set (i := 2) sc__law_flow.nd rfl (.inl rfl) (pe_op op_sub (pe_callB call_abs (by rfl) T.m_abs (by decide +kernel) (pa_cons (pe_ix ix_list (pv 0) pe_int (fun _ _ => rfl)) pa_nil)) (pe_op op_pow pe_int pe_int))))
 pss_nil)
 (pss_cons (ps_set (i := 3) sc__law_flow.nd rfl (.inl rfl) (pe_lst pa_nil))
 (pss_cons (ps_for PassesOwn.never rfl (pi_range1 (by rfl) T.m_range (pa_cons (pv 1) pa_nil)) (pg_name (i := 4) sc__law_flow.nd rfl (.inl rfl))
 (pss_one (ps_if (pt_cmpR op_gt (pv 2) pe_int (nomark _))
 (pss_cons (ps_expr (pe_bm PySem.F.plainAttrs_list PySem.F.slot_list_append PySem.F.type_list_append mt_append (pv 3) (pa_cons (pe_op op_mod (pv 2) pe_int) pa_nil)))
 (pss_one (ps_set (i := 2) sc__law_flow.nd rfl (.inl rfl) (pe_op op_fdiv (pv 2) pe_int))))
 (pss_cons (ps_set (i := 5) sc__law_flow.nd rfl (.inl rfl) (pe_op op_add (pv 4) pe_int))
 (C8.pss_cut (ps_if (pt_cmpR op_gt (pe_callB call_len_seq (by rfl) T.m_len (by decide +kernel) (pa_cons (pv 0) pa_nil)) pe_int (nomark _))
 (pss_one (ps_set (i := 5) sc__law_flow.nd rfl (.inl rfl) (pe_ix ix_list (pv 0) (pe_op op_mod (pv 4) (pe_callB call_len_seq (by rfl) T.m_len (by decide +kernel) (pa_cons (pv 0) pa_nil))) (fun _ _ => rfl))))
 pss_nil)
 (pss_cons (ps_set (i := 6) sc__law_flow.nd rfl (.inl rfl) (pe_op op_mod (pe_op op_add (pe_op op_add (pe_op op_mulU (pv 5) pe_int) (pe_op op_mulU (pv 4) pe_int)) pe_int) pe_int))
 (pss_cons (ps_set (i := 6) sc__law_flow.nd rfl (.inl rfl) (pe_op op_mod (pe_op op_add (pe_op op_add (pe_op op_mulU (pv 6) pe_int) (pe_op op_mulU (pv 4) pe_int)) (pe_callB call_len_seq (by rfl) T.m_len (by decide +kernel) (pa_cons (pv 0) pa_nil))) pe_int))
 (pss_one (ps_expr (pe_bm PySem.F.plainAttrs_list PySem.F.slot_list_append PySem.F.type_list_append mt_append (pv 3) (pa_cons (pe_op op_mod (pe_op op_fdiv (pv 6) pe_int) pe_int) pa_nil)))))))))))
 (pss_one (ps_ret (pv 3))))))), ?_⟩
    have hlen : (ns.map V.int).length = ns.length := List.length_map _
    refine ⟨fun σ' H' => ∃ g : Int, σ' = [some (.ref a), some (.int m), some (.int g), none, none, none, none] ∧ H = H', ?_, ?_⟩
    · refine ⟨_, rfl, _, _, rfl, .inl hS, _, _, rfl, rfl, _, rfl, ite2 (fun hd => ?_) (fun _ => ⟨_, rfl, rfl⟩)⟩
      have h0 : 0 < ns.length := by
        have := of_decide_eq_true hd
        rw [hlen] at this
        omega
      obtain ⟨z, hz⟩ := mod_at h0 0
      have hz0 : atI (ns.map V.int) 0 = some (.int z) := by
        have e : ((0 : Nat) : Int) % (ns.length : Int) = 0 := by simp
        rw [e] at hz
        exact hz
      refine ⟨_, rfl, a, _, _, _, rfl, rfl, hS, hz0, _, rfl, _, _, rfl, rfl, ⟨by decide, by decide, by decide⟩, _, _, rfl, rfl, _, rfl, ?_⟩
      refine ite2 (fun _ => ?_) (fun _ => ⟨_, rfl, rfl⟩)
      exact ⟨_, rfl, a, _, _, _, rfl, rfl, hS, hz0, _, rfl, _, _, rfl, rfl, ⟨by decide, by decide, by decide⟩, _, _, rfl, rfl, _, rfl, rfl⟩
    · rintro _ _ ⟨g, rfl, rfl⟩
      refine ⟨Nat.zero_le _, fun p hp => ?_⟩
      refine ⟨_, rfl, m, rfl, by omega, by omega, for_range (lo := 0) (n := m.toNat) (flowInv a m p H) ⟨g, [], none, none, none, rfl, same_new hp, upd_same, rfl, rowOk_nil⟩ ?_ ?_⟩
      · rintro i σ H' hi ⟨g, rs, k, c, x, rfl, hs, hpl, hrl, hro⟩
        have hA := hs.seq hS
        have hsz : (rs.map V.int).length < sizeLine := by rw [List.length_map]; exact small1000 (by omega)
        refine ⟨_, rfl, _, _, rfl, rfl, _, rfl, ite2 (fun _ => ?_) (fun _ => ?_)⟩
        · refine ⟨_, rfl, .inl ⟨rfl, _, .inl (.inl hpl)⟩, _, rfl, _, _, rfl, rfl, (by show (0 : Int) < _; decide), p, _, _, rfl, rfl, hpl, hsz, ?_⟩
          refine ⟨_, rfl, _, _, rfl, rfl, ⟨by decide, by decide⟩, ?_⟩
          exact flow_turn hs hp hrl hro
        · refine ⟨_, rfl, _, _, rfl, rfl, ?_⟩
          refine ⟨fun σ' H2 => ∃ cell : Int, σ' = [some (.ref a), some (.int m), some (.int g), some (.ref p), some (.int (0 + (i : Int))), some (.int cell), x] ∧ H' = H2, ?_, ?_⟩
          · refine ⟨_, rfl, _, _, rfl, .inl hA, _, _, rfl, rfl, _, rfl, ite2 (fun hd => ?_) (fun _ => ⟨_, rfl, rfl⟩)⟩
            have h0 : 0 < ns.length := by
              have := of_decide_eq_true hd
              rw [hlen] at this
              omega
            obtain ⟨z, hz⟩ := mod_at h0 i
            refine ⟨_, rfl, _, rfl, _, rfl, _, _, rfl, .inl hA, _, _, rfl, rfl, (by rw [hlen]; omega), a, _, _, .int z, rfl, rfl, hA, ?_, ⟨z, rfl, rfl⟩⟩
            rw [hlen, Int.zero_add]
            exact hz
          · rintro _ _ ⟨cell, rfl, rfl⟩
            refine ⟨_, rfl, _, _, rfl, rfl, mulR (by decide) (by decide), _, rfl, _, _, rfl, rfl, mulR (by decide) (by decide), _, _, rfl, rfl, _, _, rfl, rfl, _, _, rfl, rfl, (by show (0 : Int) < _; decide), ?_⟩
            refine ⟨_, rfl, _, _, rfl, rfl, mulR (by decide) (by decide), _, rfl, _, _, rfl, rfl, mulR (by decide) (by decide), _, _, rfl, rfl, _, rfl, _, _, rfl, .inl hA, _, _, rfl, rfl, _, _, rfl, rfl, (by show (0 : Int) < _; decide), ?_⟩
            refine ⟨_, rfl, .inl ⟨rfl, _, .inl (.inl hpl)⟩, _, rfl, _, _, rfl, rfl, ⟨by decide, by decide⟩, _, _, rfl, rfl, (by show (0 : Int) < _; decide), p, _, _, rfl, rfl, hpl, hsz, ?_⟩
            exact flow_turn hs hp hrl hro
      · rintro σ H' ⟨g, rs, k, c, x, rfl, hs, hpl, hrl, hro⟩
        exact ⟨_, rfl, q H' p rs hs hp hrl hro hpl⟩

/-! ### lists of pairs of whole numbers -/
inductive All2 {α β : Type} (R : α → β → Prop) : List α → List β → Prop
  | nil : All2 R [] []
  | cons {x : α} {y : β} {xs : List α} {ys : List β} : R x y → All2 R xs ys → All2 R (x :: xs) (y :: ys)
theorem All2.length {α β : Type} {R : α → β → Prop} {xs : List α} {ys : List β} (h : All2 R xs ys) : xs.length = ys.length := by
  induction h with
  | nil => rfl
  | cons _ _ ih => rw [List.length_cons, List.length_cons, ih]
theorem All2.mono {α β : Type} {R R' : α → β → Prop} {xs : List α} {ys : List β} (h : All2 R xs ys) (f : ∀ x y, R x y → R' x y) : All2 R' xs ys := by
  induction h with
  | nil => exact .nil
  | cons a _ ih => exact .cons (f _ _ a) ih
theorem All2.app {α β : Type} {R : α → β → Prop} {xs xs' : List α} {ys ys' : List β} (h : All2 R xs ys) (h' : All2 R xs' ys') : All2 R (xs ++ xs') (ys ++ ys') := by
  induction h with
  | nil => exact h'
  | cons a _ ih => exact .cons a ih
theorem All2.at {α β : Type} {R : α → β → Prop} {xs : List α} {ys : List β} (h : All2 R xs ys) : ∀ {i : Nat} {x : α}, xs[i]? = some x → ∃ y, ys[i]? = some y ∧ R x y := by
  induction h with
  | nil => intro i x e; cases e
  | cons a _ ih =>
    intro i x e
    cases i with
    | zero => obtain rfl := Option.some.inj e; exact ⟨_, rfl, a⟩
    | succ i => exact ih e
theorem All2.at' {α β : Type} {R : α → β → Prop} {xs : List α} {ys : List β} (h : All2 R xs ys) : ∀ {i : Nat} {y : β}, ys[i]? = some y → ∃ x, xs[i]? = some x ∧ R x y := by
  induction h with
  | nil => intro i x e; cases e
  | cons a _ ih =>
    intro i x e
    cases i with
    | zero => obtain rfl := Option.some.inj e; exact ⟨_, rfl, a⟩
    | succ i => exact ih e
theorem All2.take {α β : Type} {R : α → β → Prop} {xs : List α} {ys : List β} (h : All2 R xs ys) : ∀ i, All2 R (xs.take i) (ys.take i) := by
  induction h with
  | nil => intro i; rw [List.take_nil, List.take_nil]; exact .nil
  | cons a _ ih =>
    intro i
    cases i with
    | zero => exact .nil
    | succ i => exact .cons a (ih i)
theorem All2.drop {α β : Type} {R : α → β → Prop} {xs : List α} {ys : List β} (h : All2 R xs ys) : ∀ i, All2 R (xs.drop i) (ys.drop i) := by
  induction h with
  | nil => intro i; rw [List.drop_nil, List.drop_nil]; exact .nil
  | cons a t ih =>
    intro i
    cases i with
    | zero => exact .cons a t
    | succ i => exact ih i
theorem All2.one {α β : Type} {R : α → β → Prop} {x : α} {y : β} (h : R x y) : All2 R [x] [y] := .cons h .nil
def PrAt (K : PySem.W.Frag) (H : Hp) (x : V) (p : Int × Int) : Prop := ∃ t, x = V.ref t ∧ H t = some (.tup [.int p.1, .int p.2])
abbrev PrL (K : PySem.W.Frag) (H : Hp) (xs : List V) (l : List (Int × Int)) : Prop := All2 (PrAt K H) xs l
theorem PrAt.mono {H H' : Hp} {x : V} {p : Int × Int} (s : Same H H') (h : PrAt K H x p) : PrAt K H' x p := by
  obtain ⟨t, e, ht⟩ := h
  exact ⟨t, e, s _ _ ht⟩
theorem PrL.mono {H H' : Hp} {xs : List V} {l : List (Int × Int)} (s : Same H H') (h : PrL K H xs l) : PrL K H' xs l := All2.mono h fun _ _ q => q.mono s
/-- all tuples of H stand in H' -/
def TupS (H H' : Hp) : Prop := ∀ t xs, H t = some (.tup xs) → H' t = some (.tup xs)
theorem TupS.of {H H' : Hp} (s : Same H H') : TupS H H' := fun t xs e => s _ _ e
theorem TupS.trans {H H' H2 : Hp} (s : TupS H H') (s' : TupS H' H2) : TupS H H2 := fun t xs e => s' _ _ (s _ _ e)
theorem TupS.put {H : Hp} {p : Addr} {xs : List V} {o : HO} (h : H p = some (.lst xs)) : TupS H (upd H p o) := fun t ys e => by
  rw [upd_ne (ne_of e h (fun z => nomatch z))]
  exact e
theorem PrL.tups {H H' : Hp} {xs : List V} {l : List (Int × Int)} (s : TupS H H') (h : PrL K H xs l) : PrL K H' xs l := All2.mono h fun _ _ ⟨t, e, ht⟩ => ⟨t, e, s _ _ ht⟩
theorem PrAt.sq {H : Hp} {x : V} {p : Int × Int} (h : PrAt K H x p) : ∃ t, x = V.ref t ∧ SqT K H t [.int p.1, .int p.2] := by
  obtain ⟨t, e, ht⟩ := h
  exact ⟨t, e, .inl (.inl ht)⟩
/-! pairs in order -/
def le2 (p q : Int × Int) : Prop := p.1 < q.1 ∨ (p.1 = q.1 ∧ p.2 ≤ q.2)
instance (p q : Int × Int) : Decidable (le2 p q) := by unfold le2; exact inferInstance
theorem le2_anti {p q : Int × Int} (h : le2 p q) (h' : le2 q p) : p = q := by
  unfold le2 at h h'
  exact Prod.ext (by omega) (by omega)
theorem le2_total (p q : Int × Int) : le2 p q ∨ le2 q p := by unfold le2; omega
theorem le2_trans {p q r : Int × Int} (h : le2 p q) (h' : le2 q r) : le2 p r := by unfold le2 at *; omega
def sort2 (l : List (Int × Int)) : List (Int × Int) := l.mergeSort fun p q => decide (le2 p q)
theorem sort2_perm (l : List (Int × Int)) : (sort2 l).Perm l := List.mergeSort_perm _ _
theorem sort2_sorted (l : List (Int × Int)) : (sort2 l).Pairwise le2 := by
  have := List.pairwise_mergeSort (le := fun p q => decide (le2 p q)) (fun a b c h1 h2 => decide_eq_true (le2_trans (of_decide_eq_true h1) (of_decide_eq_true h2)))
    (fun a b => by rcases le2_total a b with h | h <;> simp [h]) l
  exact this.imp fun h => of_decide_eq_true h
theorem sort2_uniq {l m : List (Int × Int)} (h1 : m.Perm l) (h2 : m.Pairwise le2) : m = sort2 l :=
  List.Perm.eq_of_pairwise (le := le2) (fun _ _ _ _ => le2_anti) h2 (sort2_sorted l) (h1.trans (sort2_perm l).symm)
theorem sort2_self {l : List (Int × Int)} (h : l.Pairwise le2) : sort2 l = l := (sort2_uniq (List.Perm.refl _) h).symm
theorem sort2_mem {l : List (Int × Int)} {p : Int × Int} : p ∈ sort2 l ↔ p ∈ l := (sort2_perm l).mem_iff
theorem sort2_len (l : List (Int × Int)) : (sort2 l).length = l.length := (sort2_perm l).length_eq
theorem sort2_eq {l m : List (Int × Int)} (h : l.Perm m) : sort2 l = sort2 m := sort2_uniq ((sort2_perm l).trans h) (sort2_sorted l)
theorem sort2_nodup {l : List (Int × Int)} (h : l.Nodup) : (sort2 l).Nodup := (sort2_perm l).nodup_iff.mpr h
/-! sorted -/
def kOf (H : Hp) : V → Int × Int
  | .ref t => match H t with
    | some (.tup [.int i, .int j]) => (i, j)
    | _ => (0, 0)
  | _ => (0, 0)
theorem PrAt.k {H : Hp} {x : V} {p : Int × Int} (h : PrAt K H x p) : kOf H x = p := by
  obtain ⟨t, rfl, ht⟩ := h
  show (match H t with | some (.tup [.int i, .int j]) => (i, j) | _ => (0, 0)) = p
  rw [ht]
theorem PrL.k {H : Hp} {xs : List V} {l : List (Int × Int)} (h : PrL K H xs l) : xs.map (kOf H) = l := by
  induction h with
  | nil => rfl
  | cons a _ ih => rw [List.map_cons, a.k, ih]
theorem PrL.mem {H : Hp} {xs : List V} {l : List (Int × Int)} (h : PrL K H xs l) : ∀ x ∈ xs, PrAt K H x (kOf H x) := by
  induction h with
  | nil => intro x hx; cases hx
  | cons a _ ih =>
    intro x hx
    rcases List.mem_cons.mp hx with e | hx
    · subst e; rw [a.k]; exact a
    · exact ih x hx
theorem PrL.of_k {H : Hp} : ∀ {ys : List V}, (∀ x ∈ ys, PrAt K H x (kOf H x)) → PrL K H ys (ys.map (kOf H))
  | [], _ => .nil
  | y :: ys, h => .cons (h y (List.mem_cons_self ..)) (PrL.of_k fun x hx => h x (List.mem_cons_of_mem _ hx))
def rSort2 (K : PySem.W.Frag) : List V → Hp → VK → Prop := fun vs H Q => ∃ (a : Addr) (xs : List V) (l : List (Int × Int)), vs = [V.ref a] ∧ SqL K H a xs ∧ PrL K H xs l ∧
  ∀ ys p, PrL K H ys (sort2 l) → H p = none → Q (.ref p) (upd H p (.lst ys))
theorem cr_sort2 {X : Cx} : CallR X (.builtin "sorted") (rSort2 X.K) := by
  intro pins s σ H vs us Q I r h
  obtain ⟨a, xs, l, rfl, hs, hP, q⟩ := h
  refine cr_sortedPO pins s σ H _ us Q I r ⟨a, xs, kOf H, rfl, hs, fun x hx => hP.mem x hx, fun ys p h1 h2 hp => q ys p ?_ hp⟩
  have hm := PrL.of_k (K := X.K) (H := H) (ys := ys) fun x hx => hP.mem x (h2.perm.mem_iff.mp hx)
  have e : ys.map (kOf H) = sort2 l := by
    refine sort2_uniq ?_ ?_
    · rw [← hP.k]; exact h2.perm.map _
    · rw [List.pairwise_map]
      refine List.Pairwise.imp (fun {x y} h => ?_) h1
      have := SrtO.lexB_no.mp h
      unfold le2
      omega
  rw [e] at hm
  exact hm
/-! in, ==, != -/
def dat2 (p : Int × Int) : PyData := .tuple [.int p.1, .int p.2]
theorem dat2_eqv (p q : Int × Int) : PyData.eqv (dat2 p) (dat2 q) = decide (p = q) := by
  obtain ⟨a, b⟩ := p
  obtain ⟨c, d⟩ := q
  show PyData.eqvAll [.int a, .int b] [.int c, .int d] = _
  simp only [PyData.eqvAll, PyData.eqv, Bool.and_true]
  by_cases h1 : a = c <;> by_cases h2 : b = d <;> simp [h1, h2]
theorem dat2s_eqv : ∀ l m : List (Int × Int), PyData.eqvAll (l.map dat2) (m.map dat2) = decide (l = m)
  | [], [] => by simp [PyData.eqvAll]
  | [], _ :: _ => by simp [PyData.eqvAll]
  | _ :: _, [] => by simp [PyData.eqvAll]
  | p :: l, q :: m => by
    rw [List.map_cons, List.map_cons, PySem.W.eqv_all_cons, dat2_eqv, dat2s_eqv l m]
    by_cases e : p = q
    · subst e; simp
    · simp [e]
theorem PrAt.dp {H : Hp} {x : V} {p : Int × Int} (h : PrAt K H x p) : Dp K H x (dat2 p) := by
  obtain ⟨t, rfl, ht⟩ := h
  exact .tup (.inl (.inl ht)) (.cons (.int _) (.cons (.int _) .nil))
theorem PrL.dp {H : Hp} {xs : List V} {l : List (Int × Int)} (h : PrL K H xs l) : DpAll K H xs (l.map dat2) := by
  induction h with
  | nil => exact .nil
  | cons a _ ih => exact .cons a.dp ih
theorem dat2_sh (p : Int × Int) : SeqAt.shaped (dat2 p) = true := rfl
theorem dat2_sh2 (l : List (Int × Int)) (h : l.length ≤ 200) : SeqAt.shaped (.list (l.map dat2)) = true := by
  have key : ∀ l : List (Int × Int), PyData.canLayAll0 (l.map dat2) = true ∧ PyData.depthAll (l.map dat2) ≤ 1 := by
    intro l
    induction l with
    | nil => exact ⟨rfl, by decide⟩
    | cons p l ih =>
      refine ⟨?_, ?_⟩
      · show (PyData.canLay0 (dat2 p) && PyData.canLayAll0 (l.map dat2)) = true
        rw [ih.1]; rfl
      · show max (PyData.depth (dat2 p)) (PyData.depthAll (l.map dat2)) ≤ 1
        have : PyData.depth (dat2 p) = 1 := rfl
        have := ih.2
        omega
  unfold SeqAt.shaped
  have h1 : PyData.canLay0 (.list (l.map dat2)) = true := by
    exact (key l).1
  have h2 : PyData.depth (.list (l.map dat2)) ≤ 64 := by
    have := (key l).2
    simp only [PyData.depth]
    omega
  rw [h1, decide_eq_true h2]
  rfl
theorem any_eqv (l : List (Int × Int)) (p : Int × Int) : ((l.map dat2).any fun z => PyData.eqv z (dat2 p)) = decide (p ∈ l) := by
  induction l with
  | nil => simp
  | cons q l ih =>
    rw [List.map_cons, List.any_cons, ih, dat2_eqv]
    by_cases e : q = p
    · subst e; simp
    · simp [e, Ne.symm e]
def rIn2 (K : PySem.W.Frag) (neg : Bool) : R2 := fun x y H Q => ∃ (p : Int × Int) (a : Addr) (xs : List V) (l : List (Int × Int)), PrAt K H x p ∧ y = .ref a ∧ SqL K H a xs ∧ PrL K H xs l ∧ l.length ≤ 200 ∧ Q (.bl (if neg then !decide (p ∈ l) else decide (p ∈ l))) H
section
variable {X : Cx}
theorem op_in2 (hu : X.A.units + 65 < cLine) : OpR X (compareOp .In) (rIn2 X.K false) := by
  intro pins s σ H x y v u Q I rx ry h
  obtain ⟨p, a, xs, l, hp, rfl, hs, hP, hl, q⟩ := h
  refine op_inD hu pins s σ H _ _ v u Q I rx ry ⟨_, _, hp.dp, .lst hs hP.dp, dat2_sh p, dat2_sh2 l hl, ?_⟩
  rw [any_eqv]
  exact q
theorem op_notIn2 (hu : X.A.units + 65 < cLine) : OpR X (compareOp .NotIn) (rIn2 X.K true) := by
  intro pins s σ H x y v u Q I rx ry h
  obtain ⟨p, a, xs, l, hp, rfl, hs, hP, hl, q⟩ := h
  refine op_notInD hu pins s σ H _ _ v u Q I rx ry ⟨_, _, hp.dp, .lst hs hP.dp, dat2_sh p, dat2_sh2 l hl, ?_⟩
  rw [any_eqv]
  exact q
def rEqL2 (K : PySem.W.Frag) (neg : Bool) : R2 := fun x y H Q => ∃ (a b : Addr) (xs ys : List V) (l m : List (Int × Int)), x = .ref a ∧ y = .ref b ∧ SqL K H a xs ∧ PrL K H xs l ∧ SqL K H b ys ∧ PrL K H ys m ∧ l.length ≤ 200 ∧ m.length ≤ 200 ∧ Q (.bl (if neg then !decide (l = m) else decide (l = m))) H
theorem op_eqL2 (hu : X.A.units + 64 < cLine) : OpR X (compareOp .Eq) (rEqL2 X.K false) := by
  intro pins s σ H x y v u Q I rx ry h
  obtain ⟨a, b, xs, ys, l, m, rfl, rfl, hs, hP, hs', hP', hl, hm, q⟩ := h
  refine op_eqD hu pins s σ H _ _ v u Q I rx ry ⟨_, _, .lst hs hP.dp, .lst hs' hP'.dp, dat2_sh2 l hl, dat2_sh2 m hm, ?_⟩
  show Q (.bl (PyData.eqvAll _ _)) H
  rw [dat2s_eqv]
  exact q
theorem op_neL2 (hu : X.A.units + 64 < cLine) : OpR X (compareOp .NotEq) (rEqL2 X.K true) := by
  intro pins s σ H x y v u Q I rx ry h
  obtain ⟨a, b, xs, ys, l, m, rfl, rfl, hs, hP, hs', hP', hl, hm, q⟩ := h
  refine op_neD hu pins s σ H _ _ v u Q I rx ry ⟨_, _, .lst hs hP.dp, .lst hs' hP'.dp, dat2_sh2 l hl, dat2_sh2 m hm, ?_⟩
  show Q (.bl (!PyData.eqvAll _ _)) H
  rw [dat2s_eqv]
  exact q
def rEqP2 (K : PySem.W.Frag) (neg : Bool) : R2 := fun x y H Q => ∃ (p q : Int × Int), PrAt K H x p ∧ PrAt K H y q ∧ Q (.bl (if neg then !decide (p = q) else decide (p = q))) H
theorem op_eqP2 (hu : X.A.units + 64 < cLine) : OpR X (compareOp .Eq) (rEqP2 X.K false) := by
  intro pins s σ H x y v u Q I rx ry h
  obtain ⟨p, q, hp, hq, k⟩ := h
  refine op_eqD hu pins s σ H _ _ v u Q I rx ry ⟨_, _, hp.dp, hq.dp, dat2_sh p, dat2_sh q, ?_⟩
  rw [dat2_eqv]
  exact k
theorem op_neP2 (hu : X.A.units + 64 < cLine) : OpR X (compareOp .NotEq) (rEqP2 X.K true) := by
  intro pins s σ H x y v u Q I rx ry h
  obtain ⟨p, q, hp, hq, k⟩ := h
  refine op_neD hu pins s σ H _ _ v u Q I rx ry ⟨_, _, hp.dp, hq.dp, dat2_sh p, dat2_sh q, ?_⟩
  rw [dat2_eqv]
  exact k
end
theorem Room.units2 {k : Nat} {A : Around} (r : Room k A) : A.units + 65 < cLine := by have := r.un; omega

/-! ### min, max of a tuple of two whole numbers -/
section
variable {X : Cx}
def rMin2T (K : PySem.W.Frag) (f : Int → Int → Int) : List V → Hp → VK → Prop := fun vs H Q => ∃ (a : Addr) (i j : Int), vs = [V.ref a] ∧ SqT K H a [.int i, .int j] ∧ Q (.int (f i j)) H
theorem tup_of {h : Heap} {a : Addr} {its : Array Value} (t : IsTup h a its) : h.IsTuple a its := t
theorem reads_int {h : Heap} {v : Value} {n : Int} {bs : List Addr} (r : Reads h v (.int n) bs) : ∃ t, v = .int n t := by
  cases r with
  | int => exact ⟨_, rfl⟩
theorem alike2 (i j : Int) : PySem.W.AlikeAll [.int i, .int j] := by
  refine ⟨fun x hx y hy => ?_, fun x hx => ?_⟩
  · simp only [List.mem_cons, List.not_mem_nil, or_false] at hx hy
    rcases hx with rfl | rfl <;> rcases hy with rfl | rfl <;> rfl
  · simp only [List.mem_cons, List.not_mem_nil, or_false] at hx
    rcases hx with rfl | rfl <;> exact fun z => nomatch z
theorem cr_min2T (hc : X.calm = true) (hu : X.A.units + 64 < cLine) : CallR X (.builtin "min") (rMin2T X.K min) := by
  intro pins s σ H vs us Q I r h
  obtain ⟨a, i, j, rfl, hs, q⟩ := h
  obtain ⟨its, rv, hl, _⟩ := I.tuple hs
  rw [Vals.ref1 r]
  obtain ⟨u1, u2, rfl, ⟨t1, e1⟩, ⟨t2, e2⟩⟩ := vals2 rv
  subst e1; subst e2
  refine PySem.W.min_tuple_data (x := .int i) (xs := [.int j]) (I.ok.hd hc) (tup_of hl) (.cons (Reads.int i t1) (.cons (Reads.int j t2) .nil)) (alike2 i j) ?_ fun k v h' tk bs hk hr hh => ?_
  · show X.A.units + 1 + 0 < cLine
    omega
  · have hm : PySem.W.minD (.int i) [.int j] = .int (min i j) := PySem.W.minD_ints i [j]
    rw [hm] at hr
    obtain ⟨t, rfl⟩ := reads_int hr
    exact ⟨.int _, H, I.kept hh, ⟨_, rfl⟩, q⟩
theorem cr_max2T (hc : X.calm = true) (hu : X.A.units + 64 < cLine) : CallR X (.builtin "max") (rMin2T X.K max) := by
  intro pins s σ H vs us Q I r h
  obtain ⟨a, i, j, rfl, hs, q⟩ := h
  obtain ⟨its, rv, hl, _⟩ := I.tuple hs
  rw [Vals.ref1 r]
  obtain ⟨u1, u2, rfl, ⟨t1, e1⟩, ⟨t2, e2⟩⟩ := vals2 rv
  subst e1; subst e2
  refine PySem.W.max_tuple_data (x := .int i) (xs := [.int j]) (I.ok.hd hc) (tup_of hl) (.cons (Reads.int i t1) (.cons (Reads.int j t2) .nil)) (alike2 i j) ?_ fun k v h' tk bs hk hr hh => ?_
  · show X.A.units + 1 + 0 < cLine
    omega
  · have hm : PySem.W.maxD (.int i) [.int j] = .int (max i j) := PySem.W.maxD_ints i [j]
    rw [hm] at hr
    obtain ⟨t, rfl⟩ := reads_int hr
    exact ⟨.int _, H, I.kept hh, ⟨_, rfl⟩, q⟩
end

/-! ### posts parted into plots: the mathematics -/
inductive Tr where
  | lf : Tr
  | nd (m : Int) (l r : Tr) : Tr
def TOk (S : Int → Prop) : Int → Int → Tr → Prop
  | lo, hi, .lf => lo < hi ∧ ∀ z, S z → ¬ (lo < z ∧ z < hi)
  | lo, hi, .nd m l r => S m ∧ TOk S lo m l ∧ TOk S m hi r
def tie : Int → Int → Tr → Int → Int → Prop
  | lo, hi, .lf, a, b => a = lo ∧ b = hi
  | lo, hi, .nd m l r, a, b => (a = lo ∧ b = hi) ∨ tie lo m l a b ∨ tie m hi r a b
def graft (v : Int) : Int → Int → Tr → Tr
  | lo, hi, .lf => if lo < v ∧ v < hi then .nd v .lf .lf else .lf
  | lo, hi, .nd m l r => .nd m (graft v lo m l) (graft v m hi r)
theorem TOk.lt {S : Int → Prop} : ∀ {T : Tr} {lo hi : Int}, TOk S lo hi T → lo < hi
  | .lf, _, _, h => h.1
  | .nd m l r, _, _, ⟨_, h1, h2⟩ => Int.lt_trans h1.lt h2.lt
theorem tie_root : ∀ {T : Tr} {lo hi : Int}, tie lo hi T lo hi
  | .lf, _, _ => ⟨rfl, rfl⟩
  | .nd _ _ _, _, _ => .inl ⟨rfl, rfl⟩
theorem tie_in {S : Int → Prop} : ∀ {T : Tr} {lo hi a b : Int}, TOk S lo hi T → tie lo hi T a b → lo ≤ a ∧ a < b ∧ b ≤ hi
  | .lf, lo, hi, a, b, h, ⟨e1, e2⟩ => by subst e1; subst e2; exact ⟨Int.le_refl _, h.1, Int.le_refl _⟩
  | .nd m l r, lo, hi, a, b, ⟨_, h1, h2⟩, t => by
    have q1 := h1.lt
    have q2 := h2.lt
    rcases t with ⟨e1, e2⟩ | t | t
    · subst e1; subst e2; exact ⟨Int.le_refl _, Int.lt_trans q1 q2, Int.le_refl _⟩
    · have := tie_in h1 t; omega
    · have := tie_in h2 t; omega
theorem tie_S {S : Int → Prop} : ∀ {T : Tr} {lo hi a b : Int}, TOk S lo hi T → S lo → S hi → tie lo hi T a b → S a ∧ S b
  | .lf, lo, hi, a, b, h, s1, s2, ⟨e1, e2⟩ => by subst e1; subst e2; exact ⟨s1, s2⟩
  | .nd m l r, lo, hi, a, b, ⟨sm, h1, h2⟩, s1, s2, t => by
    rcases t with ⟨e1, e2⟩ | t | t
    · subst e1; subst e2; exact ⟨s1, s2⟩
    · exact tie_S h1 s1 sm t
    · exact tie_S h2 sm s2 t
theorem tie_adj {S : Int → Prop} : ∀ {T : Tr} {lo hi a b : Int}, TOk S lo hi T → S lo → S hi → S a → S b → a < b → (∀ z, S z → ¬ (a < z ∧ z < b)) → lo ≤ a → b ≤ hi → tie lo hi T a b
  | .lf, lo, hi, a, b, h, s1, s2, sa, sb, hab, hz, h1, h2 => by
    have := h.2 a sa
    have := h.2 b sb
    exact ⟨by omega, by omega⟩
  | .nd m l r, lo, hi, a, b, ⟨sm, h1, h2⟩, s1, s2, sa, sb, hab, hz, g1, g2 => by
    have := hz m sm
    by_cases hm : b ≤ m
    · exact .inr (.inl (tie_adj h1 s1 sm sa sb hab hz g1 hm))
    · exact .inr (.inr (tie_adj h2 sm s2 sa sb hab hz (by omega) g2))
theorem nocross {S : Int → Prop} : ∀ {T : Tr} {lo hi a b c d : Int}, TOk S lo hi T → tie lo hi T a b → tie lo hi T c d → a < c → c < b → b < d → False
  | .lf, lo, hi, a, b, c, d, h, ⟨e1, e2⟩, ⟨e3, e4⟩, h1, h2, h3 => by omega
  | .nd m l r, lo, hi, a, b, c, d, ⟨sm, k1, k2⟩, t, u, h1, h2, h3 => by
    have q1 := k1.lt
    have q2 := k2.lt
    rcases t with ⟨e1, e2⟩ | t | t <;> rcases u with ⟨e3, e4⟩ | u | u
    · omega
    · have := tie_in k1 u; omega
    · have := tie_in k2 u; omega
    · have := tie_in k1 t; omega
    · exact nocross k1 t u h1 h2 h3
    · have := tie_in k1 t; have := tie_in k2 u; omega
    · have := tie_in k2 t; omega
    · have := tie_in k2 t; have := tie_in k1 u; omega
    · exact nocross k2 t u h1 h2 h3
theorem inner {S : Int → Prop} : ∀ {T : Tr} {lo hi a b : Int}, TOk S lo hi T → tie lo hi T a b → (∀ z, S z → ¬ (a < z ∧ z < b)) ∨ ∃ m, a < m ∧ m < b ∧ tie lo hi T a m ∧ tie lo hi T m b
  | .lf, lo, hi, a, b, h, ⟨e1, e2⟩ => by subst e1; subst e2; exact .inl h.2
  | .nd m l r, lo, hi, a, b, ⟨sm, k1, k2⟩, t => by
    rcases t with ⟨e1, e2⟩ | t | t
    · subst e1; subst e2; exact .inr ⟨m, k1.lt, k2.lt, .inr (.inl tie_root), .inr (.inr tie_root)⟩
    · rcases inner k1 t with q | ⟨x, q1, q2, q3, q4⟩
      · exact .inl q
      · exact .inr ⟨x, q1, q2, .inr (.inl q3), .inr (.inl q4)⟩
    · rcases inner k2 t with q | ⟨x, q1, q2, q3, q4⟩
      · exact .inl q
      · exact .inr ⟨x, q1, q2, .inr (.inr q3), .inr (.inr q4)⟩
theorem outer {S : Int → Prop} : ∀ {T : Tr} {lo hi a b : Int}, TOk S lo hi T → tie lo hi T a b → ¬ (a = lo ∧ b = hi) → ∃ p, (p < a ∧ tie lo hi T p a ∧ tie lo hi T p b) ∨ (b < p ∧ tie lo hi T a p ∧ tie lo hi T b p)
  | .lf, lo, hi, a, b, h, t, n => absurd t n
  | .nd m l r, lo, hi, a, b, ⟨sm, k1, k2⟩, t, n => by
    rcases t with t | t | t
    · exact absurd t n
    · by_cases e : a = lo ∧ b = m
      · obtain ⟨e1, e2⟩ := e; subst e1; subst e2
        exact ⟨hi, .inr ⟨k2.lt, .inl ⟨rfl, rfl⟩, .inr (.inr tie_root)⟩⟩
      · obtain ⟨p, q | q⟩ := outer k1 t e
        · exact ⟨p, .inl ⟨q.1, .inr (.inl q.2.1), .inr (.inl q.2.2)⟩⟩
        · exact ⟨p, .inr ⟨q.1, .inr (.inl q.2.1), .inr (.inl q.2.2)⟩⟩
    · by_cases e : a = m ∧ b = hi
      · obtain ⟨e1, e2⟩ := e; subst e1; subst e2
        exact ⟨lo, .inl ⟨k1.lt, .inr (.inl tie_root), .inl ⟨rfl, rfl⟩⟩⟩
      · obtain ⟨p, q | q⟩ := outer k2 t e
        · exact ⟨p, .inl ⟨q.1, .inr (.inr q.2.1), .inr (.inr q.2.2)⟩⟩
        · exact ⟨p, .inr ⟨q.1, .inr (.inr q.2.1), .inr (.inr q.2.2)⟩⟩
theorem TOk.more {S S' : Int → Prop} : ∀ {T : Tr} {lo hi : Int}, TOk S lo hi T → (∀ z, S z → S' z) → (∀ z, S' z → lo < z → z < hi → S z) → TOk S' lo hi T
  | .lf, lo, hi, h, s1, s2 => ⟨h.1, fun z hz hh => h.2 z (s2 z hz hh.1 hh.2) hh⟩
  | .nd m l r, lo, hi, ⟨sm, k1, k2⟩, s1, s2 => ⟨s1 m sm, k1.more s1 fun z hz h1 h2 => s2 z hz h1 (Int.lt_trans h2 k2.lt), k2.more s1 fun z hz h1 h2 => s2 z hz (Int.lt_trans k1.lt h1) h2⟩
theorem graft_ok {S S' : Int → Prop} {v : Int} : ∀ {T : Tr} {lo hi : Int}, TOk S lo hi T → (∀ z, S' z ↔ S z ∨ z = v) → TOk S' lo hi (graft v lo hi T)
  | .lf, lo, hi, h, s => by
    unfold graft
    by_cases e : lo < v ∧ v < hi
    · rw [if_pos e]
      refine ⟨(s v).mpr (.inr rfl), ⟨e.1, fun z hz hh => ?_⟩, e.2, fun z hz hh => ?_⟩
      · rcases (s z).mp hz with hz | hz
        · exact h.2 z hz ⟨hh.1, by omega⟩
        · omega
      · rcases (s z).mp hz with hz | hz
        · exact h.2 z hz ⟨by omega, hh.2⟩
        · omega
    · rw [if_neg e]
      refine ⟨h.1, fun z hz hh => ?_⟩
      rcases (s z).mp hz with hz | hz
      · exact h.2 z hz hh
      · exact e (hz ▸ hh)
  | .nd m l r, lo, hi, ⟨sm, k1, k2⟩, s => ⟨(s m).mpr (.inl sm), graft_ok k1 s, graft_ok k2 s⟩
theorem graft_same {S : Int → Prop} {v : Int} : ∀ {T : Tr} {lo hi : Int}, TOk S lo hi T → ¬ (lo < v ∧ v < hi) → graft v lo hi T = T
  | .lf, lo, hi, h, n => by unfold graft; rw [if_neg n]
  | .nd m l r, lo, hi, ⟨sm, k1, k2⟩, n => by
    have q1 := k1.lt
    have q2 := k2.lt
    unfold graft
    rw [graft_same k1 (by omega), graft_same k2 (by omega)]
theorem graft_tie {S : Int → Prop} {v p q : Int} (nv : ¬ S v) (sp : S p) (sq : S q) (hp : p < v) (hq : v < q) (hz : ∀ z, S z → ¬ (p < z ∧ z < q)) :
    ∀ {T : Tr} {lo hi : Int}, TOk S lo hi T → S lo → S hi → lo < v → v < hi → ∀ a b, tie lo hi (graft v lo hi T) a b ↔ tie lo hi T a b ∨ (a = p ∧ b = v) ∨ (a = v ∧ b = q)
  | .lf, lo, hi, h, s1, s2, g1, g2, a, b => by
    unfold graft
    rw [if_pos ⟨g1, g2⟩]
    have := h.2 p sp
    have := h.2 q sq
    have := hz lo s1
    have := hz hi s2
    have e1 : p = lo := by omega
    have e2 : q = hi := by omega
    subst e1; subst e2
    exact Iff.rfl
  | .nd m l r, lo, hi, ⟨sm, k1, k2⟩, s1, s2, g1, g2, a, b => by
    have hm : m ≠ v := fun e => nv (e ▸ sm)
    unfold graft
    show (_ ∨ tie lo m (graft v lo m l) a b ∨ tie m hi (graft v m hi r) a b) ↔ (_ ∨ _ ∨ _) ∨ _
    by_cases h : v < m
    · rw [graft_same k2 (by omega), graft_tie nv sp sq hp hq hz k1 s1 sm g1 h a b]
      constructor
      · rintro (h | (h | h) | h)
        · exact .inl (.inl h)
        · exact .inl (.inr (.inl h))
        · exact .inr h
        · exact .inl (.inr (.inr h))
      · rintro ((h | h | h) | h)
        · exact .inl h
        · exact .inr (.inl (.inl h))
        · exact .inr (.inr h)
        · exact .inr (.inl (.inr h))
    · rw [graft_same k1 (by omega), graft_tie nv sp sq hp hq hz k2 sm s2 (by omega) g2 a b]
      constructor
      · rintro (h | h | h | h)
        · exact .inl (.inl h)
        · exact .inl (.inr (.inl h))
        · exact .inl (.inr (.inr h))
        · exact .inr h
      · rintro ((h | h | h) | h)
        · exact .inl h
        · exact .inr (.inl h)
        · exact .inr (.inr (.inl h))
        · exact .inr (.inr (.inr h))
/-- neighbours among S, or the first and the last -/
def side (S : Int → Prop) (lo hi a b : Int) : Prop := (∀ z, S z → ¬ (a < z ∧ z < b)) ∨ (a = lo ∧ b = hi)
structure Cut (S : Int → Prop) (lo hi : Int) (R : List (Int × Int)) : Prop where
  slo : S lo
  shi : S hi
  bd : ∀ z, S z → lo ≤ z ∧ z ≤ hi
  nd : R.Nodup
  ex : ∃ T, TOk S lo hi T ∧ ∀ a b, (a, b) ∈ R ↔ tie lo hi T a b ∧ ¬ side S lo hi a b
theorem ear_mid {S S' : Int → Prop} {lo hi v p q : Int} {R : List (Int × Int)} (h : Cut S lo hi R) (s : ∀ z, S' z ↔ S z ∨ z = v) (nv : ¬ S v) (sp : S p) (sq : S q) (hp : p < v) (hq : v < q) (hz : ∀ z, S z → ¬ (p < z ∧ z < q)) (hr : ¬ (p = lo ∧ q = hi)) :
    Cut S' lo hi ((p, q) :: R) := by
  obtain ⟨T, hT, hR⟩ := h.ex
  have b1 := h.bd p sp
  have b2 := h.bd q sq
  have hpq := tie_adj hT h.slo h.shi sp sq (Int.lt_trans hp hq) hz b1.1 b2.2
  refine ⟨(s lo).mpr (.inl h.slo), (s hi).mpr (.inl h.shi), fun z hz => ?_, List.nodup_cons.mpr ⟨fun hm => ?_, h.nd⟩, graft v lo hi T, graft_ok hT s, fun a b => ?_⟩
  · rcases (s z).mp hz with hz | hz
    · exact h.bd z hz
    · omega
  · exact ((hR p q).mp hm).2 (.inl hz)
  · rw [graft_tie nv sp sq hp hq hz hT h.slo h.shi (by omega) (by omega) a b, List.mem_cons, hR a b]
    constructor
    · rintro (e | ⟨t, n⟩)
      · obtain ⟨rfl, rfl⟩ := Prod.mk.inj e
        refine ⟨.inl hpq, ?_⟩
        rintro (w | w)
        · exact w v ((s v).mpr (.inr rfl)) ⟨hp, hq⟩
        · exact hr w
      · refine ⟨.inl t, ?_⟩
        rintro (w | w)
        · exact n (.inl fun z hz => w z ((s z).mpr (.inl hz)))
        · exact n (.inr w)
    · rintro ⟨t | ⟨e1, e2⟩ | ⟨e1, e2⟩, n⟩
      · by_cases e : (a, b) = (p, q)
        · exact .inl e
        · refine .inr ⟨t, ?_⟩
          rintro (w | w)
          · apply n
            left
            intro z hz' hh
            rcases (s z).mp hz' with hz' | hz'
            · exact w z hz' hh
            · subst hz'
              have u := tie_S hT h.slo h.shi t
              have w1 := w p sp
              have w2 := w q sq
              have w3 := hz a u.1
              have w4 := hz b u.2
              have e1 : a = p := by omega
              have e2 : b = q := by omega
              exact e (by rw [e1, e2])
          · exact n (.inr w)
      · subst e1; subst e2
        exact absurd (.inl fun z hz' hh => by
          rcases (s z).mp hz' with hz' | hz'
          · exact hz z hz' ⟨hh.1, by omega⟩
          · omega) n
      · subst e1; subst e2
        exact absurd (.inl fun z hz' hh => by
          rcases (s z).mp hz' with hz' | hz'
          · exact hz z hz' ⟨by omega, hh.2⟩
          · omega) n
theorem ear_first {S S' : Int → Prop} {lo hi v x : Int} {R : List (Int × Int)} (h : Cut S lo hi R) (s : ∀ z, S' z ↔ S z ∨ z = v) (hv : v < lo) (sx : S x) (hx : lo < x ∧ x < hi) : Cut S' v hi ((lo, hi) :: R) := by
  obtain ⟨T, hT, hR⟩ := h.ex
  have hlt := hT.lt
  refine ⟨(s v).mpr (.inr rfl), (s hi).mpr (.inl h.shi), fun z hz => ?_, List.nodup_cons.mpr ⟨fun hm => ?_, h.nd⟩, .nd lo .lf T, ⟨(s lo).mpr (.inl h.slo), ⟨hv, fun z hz hh => ?_⟩, ?_⟩, fun a b => ?_⟩
  · rcases (s z).mp hz with hz | hz
    · have := h.bd z hz; omega
    · omega
  · exact ((hR lo hi).mp hm).2 (.inr ⟨rfl, rfl⟩)
  · rcases (s z).mp hz with hz | hz
    · have := h.bd z hz; omega
    · omega
  · exact hT.more (fun z hz => (s z).mpr (.inl hz)) fun z hz h1 h2 => ((s z).mp hz).resolve_right (by omega)
  · rw [List.mem_cons, hR a b]
    constructor
    · rintro (e | ⟨t, n⟩)
      · obtain ⟨rfl, rfl⟩ := Prod.mk.inj e
        refine ⟨.inr (.inr tie_root), ?_⟩
        rintro (w | w)
        · exact w x ((s x).mpr (.inl sx)) hx
        · omega
      · refine ⟨.inr (.inr t), ?_⟩
        have ti := tie_in hT t
        rintro (w | w)
        · exact n (.inl fun z hz => w z ((s z).mpr (.inl hz)))
        · omega
    · rintro ⟨⟨e1, e2⟩ | ⟨e1, e2⟩ | t, n⟩
      · exact absurd (.inr ⟨e1, e2⟩) n
      · refine absurd (.inl fun z hz hh => ?_) n
        rcases (s z).mp hz with hz | hz
        · have := h.bd z hz; omega
        · omega
      · have ti := tie_in hT t
        by_cases e : (a, b) = (lo, hi)
        · exact .inl e
        · refine .inr ⟨t, ?_⟩
          rintro (w | w)
          · refine n (.inl fun z hz hh => ?_)
            rcases (s z).mp hz with hz | hz
            · exact w z hz hh
            · omega
          · exact e (by rw [w.1, w.2])
theorem ear_last {S S' : Int → Prop} {lo hi v x : Int} {R : List (Int × Int)} (h : Cut S lo hi R) (s : ∀ z, S' z ↔ S z ∨ z = v) (hv : hi < v) (sx : S x) (hx : lo < x ∧ x < hi) : Cut S' lo v ((lo, hi) :: R) := by
  obtain ⟨T, hT, hR⟩ := h.ex
  have hlt := hT.lt
  refine ⟨(s lo).mpr (.inl h.slo), (s v).mpr (.inr rfl), fun z hz => ?_, List.nodup_cons.mpr ⟨fun hm => ?_, h.nd⟩, .nd hi T .lf, ⟨(s hi).mpr (.inl h.shi), ?_, ⟨hv, fun z hz hh => ?_⟩⟩, fun a b => ?_⟩
  · rcases (s z).mp hz with hz | hz
    · have := h.bd z hz; omega
    · omega
  · exact ((hR lo hi).mp hm).2 (.inr ⟨rfl, rfl⟩)
  · exact hT.more (fun z hz => (s z).mpr (.inl hz)) fun z hz h1 h2 => ((s z).mp hz).resolve_right (by omega)
  · rcases (s z).mp hz with hz | hz
    · have := h.bd z hz; omega
    · omega
  · rw [List.mem_cons, hR a b]
    constructor
    · rintro (e | ⟨t, n⟩)
      · obtain ⟨rfl, rfl⟩ := Prod.mk.inj e
        refine ⟨.inr (.inl tie_root), ?_⟩
        rintro (w | w)
        · exact w x ((s x).mpr (.inl sx)) hx
        · omega
      · refine ⟨.inr (.inl t), ?_⟩
        have ti := tie_in hT t
        rintro (w | w)
        · exact n (.inl fun z hz => w z ((s z).mpr (.inl hz)))
        · omega
    · rintro ⟨⟨e1, e2⟩ | t | ⟨e1, e2⟩, n⟩
      · exact absurd (.inr ⟨e1, e2⟩) n
      · have ti := tie_in hT t
        by_cases e : (a, b) = (lo, hi)
        · exact .inl e
        · refine .inr ⟨t, ?_⟩
          rintro (w | w)
          · refine n (.inl fun z hz hh => ?_)
            rcases (s z).mp hz with hz | hz
            · exact w z hz hh
            · omega
          · exact e (by rw [w.1, w.2])
      · refine absurd (.inl fun z hz hh => ?_) n
        rcases (s z).mp hz with hz | hz
        · have := h.bd z hz; omega
        · omega
theorem flip {S : Int → Prop} : ∀ {T : Tr} {lo hi a b : Int}, TOk S lo hi T → tie lo hi T a b → ¬ (a = lo ∧ b = hi) → ¬ (∀ z, S z → ¬ (a < z ∧ z < b)) →
    ∃ T' m p, TOk S lo hi T' ∧ a < m ∧ m < b ∧ tie lo hi T a m ∧ tie lo hi T m b ∧
      ((p < a ∧ tie lo hi T p a ∧ tie lo hi T p b ∧ ∀ x y, tie lo hi T' x y ↔ (tie lo hi T x y ∧ ¬ (x = a ∧ y = b)) ∨ (x = p ∧ y = m)) ∨
       (b < p ∧ tie lo hi T a p ∧ tie lo hi T b p ∧ ∀ x y, tie lo hi T' x y ↔ (tie lo hi T x y ∧ ¬ (x = a ∧ y = b)) ∨ (x = m ∧ y = p)))
  | .lf, lo, hi, a, b, h, t, n, _ => absurd t n
  | .nd m0 l r, lo, hi, a, b, ⟨sm, k1, k2⟩, t, n, na => by
    have q1 := k1.lt
    have q2 := k2.lt
    rcases t with t | t | t
    · exact absurd t n
    · have ti := tie_in k1 t
      by_cases e : a = lo ∧ b = m0
      · obtain ⟨e1, e2⟩ := e
        subst e1; subst e2
        match l, k1 with
        | .lf, k1 => exact absurd k1.2 na
        | .nd m1 l1 l2, ⟨sm1, j1, j2⟩ =>
          have r1 := j1.lt
          have r2 := j2.lt
          refine ⟨.nd m1 l1 (.nd b l2 r), m1, hi, ⟨sm1, j1, sm, j2, k2⟩, r1, r2, .inr (.inl (.inr (.inl tie_root))), .inr (.inl (.inr (.inr tie_root))), .inr ⟨q2, .inl ⟨rfl, rfl⟩, .inr (.inr tie_root), fun x y => ?_⟩⟩
          constructor
          · rintro (w | w | w | w | w)
            · exact .inl ⟨.inl w, by omega⟩
            · have := tie_in j1 w; exact .inl ⟨.inr (.inl (.inr (.inl w))), by omega⟩
            · exact .inr w
            · have := tie_in j2 w; exact .inl ⟨.inr (.inl (.inr (.inr w))), by omega⟩
            · have := tie_in k2 w; exact .inl ⟨.inr (.inr w), by omega⟩
          · rintro (⟨w | (w | w | w) | w, g⟩ | w)
            · exact .inl w
            · exact absurd w g
            · exact .inr (.inl w)
            · exact .inr (.inr (.inr (.inl w)))
            · exact .inr (.inr (.inr (.inr w)))
            · exact .inr (.inr (.inl w))
      · obtain ⟨T', m, p, hT', g1, g2, g3, g4, g5⟩ := flip k1 t e na
        refine ⟨.nd m0 T' r, m, p, ⟨sm, hT', k2⟩, g1, g2, .inr (.inl g3), .inr (.inl g4), ?_⟩
        rcases g5 with ⟨g5, g6, g7, g8⟩ | ⟨g5, g6, g7, g8⟩
        · refine .inl ⟨g5, .inr (.inl g6), .inr (.inl g7), fun x y => ?_⟩
          show (_ ∨ tie lo m0 T' x y ∨ _) ↔ _
          rw [g8 x y]
          constructor
          · rintro (w | (w | w) | w)
            · exact .inl ⟨.inl w, by omega⟩
            · exact .inl ⟨.inr (.inl w.1), w.2⟩
            · exact .inr w
            · have := tie_in k2 w; exact .inl ⟨.inr (.inr w), by omega⟩
          · rintro (⟨w | w | w, g⟩ | w)
            · exact .inl w
            · exact .inr (.inl (.inl ⟨w, g⟩))
            · exact .inr (.inr w)
            · exact .inr (.inl (.inr w))
        · refine .inr ⟨g5, .inr (.inl g6), .inr (.inl g7), fun x y => ?_⟩
          show (_ ∨ tie lo m0 T' x y ∨ _) ↔ _
          rw [g8 x y]
          constructor
          · rintro (w | (w | w) | w)
            · exact .inl ⟨.inl w, by omega⟩
            · exact .inl ⟨.inr (.inl w.1), w.2⟩
            · exact .inr w
            · have := tie_in k2 w; exact .inl ⟨.inr (.inr w), by omega⟩
          · rintro (⟨w | w | w, g⟩ | w)
            · exact .inl w
            · exact .inr (.inl (.inl ⟨w, g⟩))
            · exact .inr (.inr w)
            · exact .inr (.inl (.inr w))
    · have ti := tie_in k2 t
      by_cases e : a = m0 ∧ b = hi
      · obtain ⟨e1, e2⟩ := e
        subst e1; subst e2
        match r, k2 with
        | .lf, k2 => exact absurd k2.2 na
        | .nd m1 r1 r2, ⟨sm1, j1, j2⟩ =>
          have h1 := j1.lt
          have h2 := j2.lt
          refine ⟨.nd m1 (.nd a l r1) r2, m1, lo, ⟨sm1, ⟨sm, k1, j1⟩, j2⟩, h1, h2, .inr (.inr (.inr (.inl tie_root))), .inr (.inr (.inr (.inr tie_root))), .inl ⟨q1, .inr (.inl tie_root), .inl ⟨rfl, rfl⟩, fun x y => ?_⟩⟩
          constructor
          · rintro (w | (w | w | w) | w)
            · exact .inl ⟨.inl w, by omega⟩
            · exact .inr w
            · have := tie_in k1 w; exact .inl ⟨.inr (.inl w), by omega⟩
            · have := tie_in j1 w; exact .inl ⟨.inr (.inr (.inr (.inl w))), by omega⟩
            · have := tie_in j2 w; exact .inl ⟨.inr (.inr (.inr (.inr w))), by omega⟩
          · rintro (⟨w | w | (w | w | w), g⟩ | w)
            · exact .inl w
            · exact .inr (.inl (.inr (.inl w)))
            · exact absurd w g
            · exact .inr (.inl (.inr (.inr w)))
            · exact .inr (.inr w)
            · exact .inr (.inl (.inl w))
      · obtain ⟨T', m, p, hT', g1, g2, g3, g4, g5⟩ := flip k2 t e na
        refine ⟨.nd m0 l T', m, p, ⟨sm, k1, hT'⟩, g1, g2, .inr (.inr g3), .inr (.inr g4), ?_⟩
        rcases g5 with ⟨g5, g6, g7, g8⟩ | ⟨g5, g6, g7, g8⟩
        · refine .inl ⟨g5, .inr (.inr g6), .inr (.inr g7), fun x y => ?_⟩
          show (_ ∨ _ ∨ tie m0 hi T' x y) ↔ _
          rw [g8 x y]
          constructor
          · rintro (w | w | (w | w))
            · exact .inl ⟨.inl w, by omega⟩
            · have := tie_in k1 w; exact .inl ⟨.inr (.inl w), by omega⟩
            · exact .inl ⟨.inr (.inr w.1), w.2⟩
            · exact .inr w
          · rintro (⟨w | w | w, g⟩ | w)
            · exact .inl w
            · exact .inr (.inl w)
            · exact .inr (.inr (.inl ⟨w, g⟩))
            · exact .inr (.inr (.inr w))
        · refine .inr ⟨g5, .inr (.inr g6), .inr (.inr g7), fun x y => ?_⟩
          show (_ ∨ _ ∨ tie m0 hi T' x y) ↔ _
          rw [g8 x y]
          constructor
          · rintro (w | w | (w | w))
            · exact .inl ⟨.inl w, by omega⟩
            · have := tie_in k1 w; exact .inl ⟨.inr (.inl w), by omega⟩
            · exact .inl ⟨.inr (.inr w.1), w.2⟩
            · exact .inr w
          · rintro (⟨w | w | w, g⟩ | w)
            · exact .inl w
            · exact .inr (.inl w)
            · exact .inr (.inr (.inl ⟨w, g⟩))
            · exact .inr (.inr (.inr w))

/-! ### ears taken off, row by row -/
abbrev pr (a b : Int) : Int × Int := (min a b, max a b)
theorem sorted_lt {L : List Int} (h : L.Pairwise (· < ·)) {i j : Nat} {x y : Int} (hi : L[i]? = some x) (hj : L[j]? = some y) (hij : i < j) : x < y := by
  obtain ⟨h1, e1⟩ := List.getElem?_eq_some_iff.mp hi
  obtain ⟨h2, e2⟩ := List.getElem?_eq_some_iff.mp hj
  have := List.pairwise_iff_getElem.mp h i j h1 h2 hij
  rw [e1, e2] at this
  exact this
def CutL (L : List Int) (R : List (Int × Int)) : Prop := ∃ lo hi, L.head? = some lo ∧ L.getLast? = some hi ∧ Cut (· ∈ L) lo hi R
theorem sorted_split {A B : List Int} {v : Int} (h : (A ++ v :: B).Pairwise (· < ·)) : (∀ z ∈ A, z < v) ∧ (∀ z ∈ B, v < z) ∧ A.Pairwise (· < ·) ∧ B.Pairwise (· < ·) ∧ (∀ z ∈ A, ∀ y ∈ B, z < y) := by
  rw [List.pairwise_append, List.pairwise_cons] at h
  exact ⟨fun z hz => h.2.2 z hz v (List.mem_cons_self ..), h.2.1.1, h.1, h.2.1.2, fun z hz y hy => h.2.2 z hz y (List.mem_cons_of_mem _ hy)⟩
theorem mem_gap {A B : List Int} {v : Int} : ∀ z, z ∈ A ++ v :: B ↔ z ∈ A ++ B ∨ z = v := by
  intro z
  simp only [List.mem_append, List.mem_cons]
  constructor
  · rintro (h | h | h)
    · exact .inl (.inl h)
    · exact .inr h
    · exact .inl (.inr h)
  · rintro ((h | h) | h)
    · exact .inl h
    · exact .inr (.inr h)
    · exact .inr (.inl h)
theorem last_app {l m : List Int} (h : m ≠ []) : (l ++ m).getLast? = m.getLast? := by
  rw [List.getLast?_append]
  cases e : m.getLast? with
  | none => exact absurd (List.getLast?_eq_none_iff.mp e) h
  | some x => rfl
/-- the post at a place is left out: its neighbours get a rope -/
theorem ear_step {L : List Int} {k : Nat} {v p q : Int} {R : List (Int × Int)} (hL : L.Pairwise (· < ·)) (h4 : 4 ≤ L.length) (hv : L[k]? = some v)
    (hp : (if k = 0 then L.getLast? else L[k - 1]?) = some p) (hq : L[(k + 1) % L.length]? = some q) (h : CutL (L.take k ++ L.drop (k + 1)) R) : CutL L (pr p q :: R) := by
  obtain ⟨lo, hi, hlo, hhi, hc⟩ := h
  obtain ⟨hk, ev⟩ := List.getElem?_eq_some_iff.mp hv
  have eL : L = L.take k ++ v :: L.drop (k + 1) := by
    rw [← ev, ← List.drop_eq_getElem_cons hk, List.take_append_drop]
  have hs := hL
  rw [eL] at hs
  obtain ⟨s1, s2, s3, s4, s5⟩ := sorted_split hs
  have lA : (L.take k).length = k := by rw [List.length_take]; omega
  have lB : (L.drop (k + 1)).length = L.length - (k + 1) := List.length_drop
  have hpq := hp
  generalize eA : L.take k = A at *
  generalize eB : L.drop (k + 1) = B at *
  have sm : ∀ z, z ∈ L ↔ z ∈ A ++ B ∨ z = v := by rw [eL]; exact mem_gap
  have nv : ¬ v ∈ A ++ B := fun hm => by
    rcases List.mem_append.mp hm with hm | hm
    · exact absurd (s1 v hm) (Int.lt_irrefl _)
    · exact absurd (s2 v hm) (Int.lt_irrefl _)
  by_cases k0 : k = 0
  · -- the first
    subst k0
    have A0 : A = [] := List.length_eq_zero_iff.mp lA
    subst A0
    rw [List.nil_append] at *
    rw [Nat.mod_eq_of_lt (by omega)] at hq
    match B, lB with
    | [], lB => rw [List.length_nil] at lB; omega
    | [_], lB => rw [List.length_singleton] at lB; omega
    | [_, _], lB => simp only [List.length_cons, List.length_nil] at lB; omega
    | b0 :: b1 :: b2 :: B', lB =>
      rw [eL] at hq
      obtain rfl : b0 = q := by simpa using hq
      obtain rfl : b0 = lo := by simpa using hlo
      have e1 : L.getLast? = some hi := by
        rw [eL, List.getLast?_cons_cons]
        exact hhi
      rw [if_pos rfl, e1] at hp
      obtain rfl := Option.some.inj hp
      have hlt : b0 < b1 := (List.pairwise_cons.mp s4).1 b1 (by simp)
      have hb1 : b1 < hi := by
        rw [List.getLast?_cons_cons, List.getLast?_cons_cons] at hhi
        have hm : hi ∈ b2 :: B' := List.mem_of_getLast? hhi
        exact (List.pairwise_cons.mp (List.pairwise_cons.mp s4).2).1 hi hm
      have epr : pr hi b0 = (b0, hi) := by
        show (min hi b0, max hi b0) = _
        rw [Int.min_eq_right (by omega), Int.max_eq_left (by omega)]
      rw [epr]
      refine ⟨v, hi, by rw [eL]; rfl, e1, ear_first hc sm (s2 b0 (by simp)) (x := b1) (by simp) ⟨hlt, hb1⟩⟩
  · rw [if_neg k0] at hp
    have hkA : A ≠ [] := fun e => by rw [e] at lA; exact k0 lA.symm
    obtain ⟨A', a, eA'⟩ : ∃ A' a, A = A' ++ [a] := ⟨A.dropLast, A.getLast hkA, (List.dropLast_concat_getLast hkA).symm⟩
    subst eA'
    rw [List.length_append, List.length_singleton] at lA
    have epa : a = p := by
      rw [eL, List.append_assoc] at hp
      rw [List.getElem?_append_right (by omega)] at hp
      rw [show k - 1 - A'.length = 0 by omega] at hp
      exact Option.some.inj hp
    subst epa
    have hav : a < v := s1 a (by simp)
    match B, lB with
    | [], lB =>
      -- the last
      rw [List.length_nil] at lB
      have hkl : k + 1 = L.length := by omega
      rw [hkl, Nat.mod_self] at hq
      match A', lA with
      | [], lA => rw [List.length_nil] at lA; omega
      | a0 :: A'', lA =>
        rw [eL] at hq
        obtain rfl : a0 = q := by simpa using hq
        obtain rfl : a0 = lo := by simpa using hlo
        obtain rfl : a = hi := by
          rw [List.append_nil, List.getLast?_concat] at hhi
          exact Option.some.inj hhi
        match A'', lA with
        | [], lA => rw [List.length_singleton] at lA; omega
        | a1 :: A3, lA =>
          have h1 : a0 < a1 := (List.pairwise_cons.mp s3).1 a1 (by simp)
          have h2 : a1 < a := by
            have := (List.pairwise_cons.mp (List.pairwise_cons.mp s3).2).1 a (by simp)
            exact this
          have epr : pr a a0 = (a0, a) := by
            show (min a a0, max a a0) = _
            rw [Int.min_eq_right (by omega), Int.max_eq_left (by omega)]
          rw [epr]
          refine ⟨a0, v, by rw [eL]; rfl, by rw [eL, List.getLast?_concat], ear_last hc sm hav (x := a1) (by simp) ⟨h1, h2⟩⟩
    | b0 :: B', lB =>
      rw [List.length_cons] at lB
      rw [Nat.mod_eq_of_lt (by omega)] at hq
      have ebq : b0 = q := by
        rw [eL] at hq
        rw [List.getElem?_append_right (by rw [List.length_append, List.length_singleton]; omega), List.length_append, List.length_singleton] at hq
        rw [show k + 1 - (A'.length + 1) = 1 by omega] at hq
        exact Option.some.inj hq
      subst ebq
      have hvb : v < b0 := s2 b0 (by simp)
      have epr : pr a b0 = (a, b0) := by
        show (min a b0, max a b0) = _
        rw [Int.min_eq_left (by omega), Int.max_eq_right (by omega)]
      rw [epr]
      refine ⟨lo, hi, ?_, ?_, ear_mid hc sm nv (by simp) (by simp) hav hvb (fun z hz => ?_) ?_⟩
      · rw [eL]
        cases A' with
        | nil => simpa using hlo
        | cons x A' => simpa using hlo
      · rw [eL]
        rw [last_app (by simp)] at hhi ⊢
        rw [List.getLast?_cons_cons]
        exact hhi
      · rcases List.mem_append.mp hz with hz | hz
        · rcases List.mem_append.mp hz with hz | hz
          · have := (List.pairwise_append.mp s3).2.2 z hz a (by simp); omega
          · have := List.mem_singleton.mp hz; omega
        · rcases List.mem_cons.mp hz with hz | hz
          · omega
          · have := (List.pairwise_cons.mp s4).1 z hz; omega
      · rintro ⟨e1, e2⟩
        subst e1; subst e2
        have z1 : A' = [] := by
          cases A' with
          | nil => rfl
          | cons x A' =>
            obtain rfl : x = a := by simpa using hlo
            exact absurd ((List.pairwise_cons.mp s3).1 x (by simp)) (Int.lt_irrefl _)
        have z2 : B' = [] := by
          cases B' with
          | nil => rfl
          | cons x B' =>
            rw [last_app (by simp), List.getLast?_cons_cons] at hhi
            have hm : b0 ∈ x :: B' := List.mem_of_getLast? hhi
            exact absurd ((List.pairwise_cons.mp s4).1 b0 hm) (Int.lt_irrefl _)
        subst z1; subst z2
        simp only [List.length_nil] at lA lB
        omega
theorem cut3 {a b c : Int} (h1 : a < b) (h2 : b < c) : CutL [a, b, c] [] := by
  refine ⟨a, c, rfl, rfl, by simp, by simp, fun z hz => ?_, List.nodup_nil, .nd b .lf .lf, ⟨by simp, ⟨h1, fun z hz hh => ?_⟩, h2, fun z hz hh => ?_⟩, fun x y => ?_⟩
  · simp only [List.mem_cons, List.not_mem_nil, or_false] at hz
    omega
  · simp only [List.mem_cons, List.not_mem_nil, or_false] at hz
    omega
  · simp only [List.mem_cons, List.not_mem_nil, or_false] at hz
    omega
  · constructor
    · intro h; cases h
    · rintro ⟨w | w | w, n⟩
      · exact absurd (.inr w) n
      · obtain ⟨e1, e2⟩ := w
        refine absurd (.inl fun z hz hh => ?_) n
        simp only [List.mem_cons, List.not_mem_nil, or_false] at hz
        omega
      · obtain ⟨e1, e2⟩ := w
        refine absurd (.inl fun z hz hh => ?_) n
        simp only [List.mem_cons, List.not_mem_nil, or_false] at hz
        omega

/-! ### cuttings of n posts -/
def inR (n : Int) : Int → Prop := fun z => 0 ≤ z ∧ z < n
def rng (n : Int) : List Int := (List.range n.toNat).map (fun k : Nat => (k : Int))
def sidesL (n : Int) : List (Int × Int) := (rng (n - 1)).map (fun k => (k, k + 1)) ++ [(0, n - 1)]
theorem mem_rng {n z : Int} : z ∈ rng n ↔ 0 ≤ z ∧ z < n := by
  unfold rng
  rw [List.mem_map]
  constructor
  · rintro ⟨k, hk, rfl⟩
    have := List.mem_range.mp hk
    omega
  · rintro ⟨h1, h2⟩
    exact ⟨z.toNat, List.mem_range.mpr (by omega), by omega⟩
theorem rng_sorted (n : Int) : (rng n).Pairwise (· < ·) := by
  unfold rng
  rw [List.pairwise_map]
  exact (List.pairwise_lt_range).imp fun h => by omega
theorem rng_len (n : Int) : (rng n).length = n.toNat := by
  unfold rng; rw [List.length_map, List.length_range]
structure IsCut (n : Int) (R : List (Int × Int)) : Prop where
  three : 3 ≤ n
  nd : R.Nodup
  ex : ∃ T, TOk (inR n) 0 (n - 1) T ∧ ∀ a b, (a, b) ∈ R ↔ tie 0 (n - 1) T a b ∧ a + 2 ≤ b ∧ ¬ (a = 0 ∧ b = n - 1)
theorem isCut_of {n : Int} {R : List (Int × Int)} (h3 : 3 ≤ n) (h : CutL (rng n) R) : IsCut n R := by
  obtain ⟨lo, hi, hlo, hhi, hc⟩ := h
  have m1 := mem_rng.mp hc.slo
  have m2 := mem_rng.mp hc.shi
  have z1 := hc.bd 0 (mem_rng.mpr (by omega))
  have z2 := hc.bd (n - 1) (mem_rng.mpr (by omega))
  have e1 : lo = 0 := by omega
  have e2 : hi = n - 1 := by omega
  subst e1; subst e2
  obtain ⟨T, hT, hR⟩ := hc.ex
  have hT' : TOk (inR n) 0 (n - 1) T := hT.more (fun z hz => mem_rng.mp hz) fun z hz _ _ => mem_rng.mpr hz
  refine ⟨h3, hc.nd, T, hT', fun a b => (hR a b).trans ⟨?_, ?_⟩⟩
  · rintro ⟨t, n1⟩
    have ti := tie_in hT t
    refine ⟨t, ?_, fun e => n1 (.inr e)⟩
    rcases Int.lt_or_le (a + 1) b with h | h
    · omega
    · exact absurd (.inl fun z _ hh => by omega) n1
  · rintro ⟨t, g1, g2⟩
    have ti := tie_in hT t
    refine ⟨t, ?_⟩
    rintro (w | w)
    · exact w (a + 1) (mem_rng.mpr (by omega)) (by omega)
    · exact g2 w
theorem ties_iff {n : Int} {R : List (Int × Int)} {T : Tr} (h3 : 3 ≤ n) (hT : TOk (inR n) 0 (n - 1) T) (hR : ∀ a b, (a, b) ∈ R ↔ tie 0 (n - 1) T a b ∧ a + 2 ≤ b ∧ ¬ (a = 0 ∧ b = n - 1)) :
    ∀ a b, (a, b) ∈ sidesL n ++ R ↔ tie 0 (n - 1) T a b := by
  intro a b
  unfold sidesL
  rw [List.mem_append, List.mem_append, List.mem_singleton, List.mem_map, hR a b]
  constructor
  · rintro ((⟨k, hk, e⟩ | e) | h)
    · obtain ⟨rfl, rfl⟩ := Prod.mk.inj e
      have := mem_rng.mp hk
      exact tie_adj hT ⟨by omega, by omega⟩ ⟨by omega, by omega⟩ ⟨by omega, by omega⟩ ⟨by omega, by omega⟩ (by omega) (fun z _ hh => by omega) (by omega) (by omega)
    · obtain ⟨rfl, rfl⟩ := Prod.mk.inj e
      exact tie_root
    · exact h.1
  · intro t
    have ti := tie_in hT t
    by_cases h1 : a + 2 ≤ b
    · by_cases h2 : a = 0 ∧ b = n - 1
      · exact .inl (.inr (by rw [h2.1, h2.2]))
      · exact .inr ⟨t, h1, h2⟩
    · exact .inl (.inl ⟨a, mem_rng.mpr (by omega), by rw [show b = a + 1 by omega]⟩)
/-- x makes a plot with a and b -/
def Bes (lo hi : Int) (T : Tr) (a b x : Int) : Prop := (a < x ∧ x < b ∧ tie lo hi T a x ∧ tie lo hi T x b) ∨ (x < a ∧ tie lo hi T x a ∧ tie lo hi T x b) ∨ (b < x ∧ tie lo hi T a x ∧ tie lo hi T b x)
theorem bes_iff {S : Int → Prop} {lo hi a b x : Int} {T : Tr} (hT : TOk S lo hi T) (hab : a < b) : Bes lo hi T a b x ↔ tie lo hi T (min a x) (max a x) ∧ tie lo hi T (min b x) (max b x) := by
  constructor
  · rintro (⟨h1, h2, h3, h4⟩ | ⟨h1, h2, h3⟩ | ⟨h1, h2, h3⟩)
    · rw [Int.min_eq_left (by omega), Int.max_eq_right (by omega), Int.min_eq_right (by omega), Int.max_eq_left (by omega)]
      exact ⟨h3, h4⟩
    · rw [Int.min_eq_right (by omega), Int.max_eq_left (by omega), Int.min_eq_right (by omega), Int.max_eq_left (by omega)]
      exact ⟨h2, h3⟩
    · rw [Int.min_eq_left (by omega), Int.max_eq_right (by omega), Int.min_eq_left (by omega), Int.max_eq_right (by omega)]
      exact ⟨h2, h3⟩
  · rintro ⟨t, u⟩
    have t1 := tie_in hT t
    have u1 := tie_in hT u
    rcases Int.lt_trichotomy x a with h | h | h
    · rw [Int.min_eq_right (by omega), Int.max_eq_left (by omega)] at t u
      exact .inr (.inl ⟨h, t, u⟩)
    · omega
    · rcases Int.lt_trichotomy x b with g | g | g
      · rw [Int.min_eq_left (by omega), Int.max_eq_right (by omega)] at t
        rw [Int.min_eq_right (by omega), Int.max_eq_left (by omega)] at u
        exact .inl ⟨h, g, t, u⟩
      · omega
      · rw [Int.min_eq_left (by omega), Int.max_eq_right (by omega)] at t u
        exact .inr (.inr ⟨g, t, u⟩)
theorem bes_in {S : Int → Prop} {lo hi a b x y : Int} {T : Tr} (hT : TOk S lo hi T) (hab : a < b) (hx : Bes lo hi T a b x) (hy : Bes lo hi T a b y) (h1 : a < x) (h2 : x < b) (h3 : a < y) (h4 : y < b) : x = y := by
  rcases hx with ⟨_, _, x1, x2⟩ | ⟨_, x1, x2⟩ | ⟨_, x1, x2⟩ <;> rcases hy with ⟨_, _, y1, y2⟩ | ⟨_, y1, y2⟩ | ⟨_, y1, y2⟩ <;> first | omega | skip
  rcases Int.lt_trichotomy x y with h | h | h
  · exact (nocross hT y1 x2 h1 h h4).elim
  · exact h
  · exact (nocross hT x1 y2 h3 h h2).elim
theorem bes_out {S : Int → Prop} {lo hi a b x y : Int} {T : Tr} (hT : TOk S lo hi T) (hab : a < b) (hx : Bes lo hi T a b x) (hy : Bes lo hi T a b y) (h1 : ¬ (a < x ∧ x < b)) (h2 : ¬ (a < y ∧ y < b)) : x = y := by
  rcases hx with ⟨x0, x00, _, _⟩ | ⟨x0, x1, x2⟩ | ⟨x0, x1, x2⟩
  · exact absurd ⟨x0, x00⟩ h1
  · rcases hy with ⟨y0, y00, _, _⟩ | ⟨y0, y1, y2⟩ | ⟨y0, y1, y2⟩
    · exact absurd ⟨y0, y00⟩ h2
    · rcases Int.lt_trichotomy x y with h | h | h
      · exact (nocross hT x1 y2 h y0 hab).elim
      · exact h
      · exact (nocross hT y1 x2 h x0 hab).elim
    · exact (nocross hT x2 y1 x0 hab y0).elim
  · rcases hy with ⟨y0, y00, _, _⟩ | ⟨y0, y1, y2⟩ | ⟨y0, y1, y2⟩
    · exact absurd ⟨y0, y00⟩ h2
    · exact (nocross hT y2 x1 y0 hab x0).elim
    · rcases Int.lt_trichotomy x y with h | h | h
      · exact (nocross hT x1 y2 hab x0 h).elim
      · exact h
      · exact (nocross hT y1 x2 hab y0 h).elim
theorem sorted_ext {l m : List Int} (h1 : l.Pairwise (· < ·)) (h2 : m.Pairwise (· < ·)) (h : ∀ x, x ∈ l ↔ x ∈ m) : l = m := by
  have n1 : l.Nodup := h1.imp fun h => Int.ne_of_lt h
  have n2 : m.Nodup := h2.imp fun h => Int.ne_of_lt h
  exact List.Perm.eq_of_pairwise (le := (· < ·)) (fun a b _ _ x y => absurd (Int.lt_trans x y) (Int.lt_irrefl _)) h1 h2 ((List.perm_ext_iff_of_nodup n1 n2).mpr h)
def besL (t : List (Int × Int)) (n a b : Int) : List Int := (rng n).filter fun p => decide (pr a p ∈ t) && decide (pr b p ∈ t)
theorem besL_comm (t : List (Int × Int)) (n a b : Int) : besL t n a b = besL t n b a := by
  unfold besL
  refine List.filter_congr fun x _ => ?_
  rw [Bool.and_comm]
theorem besL_pr (t : List (Int × Int)) (n a b : Int) : besL t n a b = besL t n (pr a b).1 (pr a b).2 := by
  show _ = besL t n (min a b) (max a b)
  rcases Int.le_total a b with h | h
  · rw [Int.min_eq_left h, Int.max_eq_right h]
  · rw [Int.min_eq_right h, Int.max_eq_left h, besL_comm]
theorem besL_mem {n : Int} {t : List (Int × Int)} {T : Tr} (hT : TOk (inR n) 0 (n - 1) T) (ht : ∀ a b, (a, b) ∈ t ↔ tie 0 (n - 1) T a b) {a b : Int} (hab : a < b) : ∀ x, x ∈ besL t n a b ↔ Bes 0 (n - 1) T a b x := by
  intro x
  rw [bes_iff hT hab]
  unfold besL
  rw [List.mem_filter, Bool.and_eq_true, decide_eq_true_eq, decide_eq_true_eq, ht, ht, mem_rng]
  constructor
  · exact fun h => h.2
  · intro h
    have := tie_in hT h.1
    have := tie_in hT h.2
    refine ⟨?_, h⟩
    omega
theorem besL_sorted (t : List (Int × Int)) (n a b : Int) : (besL t n a b).Pairwise (· < ·) := (rng_sorted n).filter _
/-- beside a side stands one post, beside a rope two -/
theorem beside_side {n : Int} {t : List (Int × Int)} {T : Tr} (h3 : 3 ≤ n) (hT : TOk (inR n) 0 (n - 1) T) (ht : ∀ a b, (a, b) ∈ t ↔ tie 0 (n - 1) T a b) {a b : Int} (h : tie 0 (n - 1) T a b) (hs : ¬ (a + 2 ≤ b ∧ ¬ (a = 0 ∧ b = n - 1))) :
    ∃ m, besL t n a b = [m] := by
  have ti := tie_in hT h
  have hm := besL_mem hT ht ti.2.1
  by_cases h1 : a + 2 ≤ b
  · have h2 : a = 0 ∧ b = n - 1 := Decidable.by_contra fun q => hs ⟨h1, q⟩
    rcases inner hT h with q | ⟨m, q1, q2, q3, q4⟩
    · exact absurd (q (a + 1) ⟨by omega, by omega⟩) (by omega)
    · have hb : Bes 0 (n - 1) T a b m := .inl ⟨q1, q2, q3, q4⟩
      refine ⟨m, sorted_ext (besL_sorted ..) (List.pairwise_singleton ..) fun x => ?_⟩
      rw [hm, List.mem_singleton]
      constructor
      · intro g
        have : a < x ∧ x < b := by
          rcases g with ⟨g1, g2, _, _⟩ | ⟨g1, g2, g3⟩ | ⟨g1, g2, g3⟩
          · exact ⟨g1, g2⟩
          · have := tie_in hT g2; omega
          · have := tie_in hT g2; omega
        exact bes_in hT ti.2.1 g hb this.1 this.2 q1 q2
      · rintro rfl
        exact hb
  · obtain ⟨p, hp⟩ := outer hT h (by omega)
    have hb : Bes 0 (n - 1) T a b p := by
      rcases hp with hp | hp
      · exact .inr (.inl hp)
      · exact .inr (.inr hp)
    refine ⟨p, sorted_ext (besL_sorted ..) (List.pairwise_singleton ..) fun x => ?_⟩
    rw [hm, List.mem_singleton]
    constructor
    · intro g
      exact bes_out hT ti.2.1 g hb (by omega) (by omega)
    · rintro rfl
      exact hb
theorem beside_rope {n : Int} {t : List (Int × Int)} {T : Tr} (hT : TOk (inR n) 0 (n - 1) T) (ht : ∀ a b, (a, b) ∈ t ↔ tie 0 (n - 1) T a b) {a b : Int} (h : tie 0 (n - 1) T a b) (h1 : a + 2 ≤ b) (h2 : ¬ (a = 0 ∧ b = n - 1)) :
    ∃ m p T', a < m ∧ m < b ∧ TOk (inR n) 0 (n - 1) T' ∧ ((p < a ∧ 0 ≤ p ∧ besL t n a b = [p, m] ∧ ∀ x y, tie 0 (n - 1) T' x y ↔ (tie 0 (n - 1) T x y ∧ ¬ (x = a ∧ y = b)) ∨ (x = p ∧ y = m)) ∨
      (b < p ∧ p < n ∧ besL t n a b = [m, p] ∧ ∀ x y, tie 0 (n - 1) T' x y ↔ (tie 0 (n - 1) T x y ∧ ¬ (x = a ∧ y = b)) ∨ (x = m ∧ y = p))) := by
  have ti := tie_in hT h
  have hm := besL_mem hT ht ti.2.1
  obtain ⟨T', m, p, hT', g1, g2, g3, g4, g5⟩ := flip hT h h2 (fun q => q (a + 1) ⟨by omega, by omega⟩ (by omega))
  refine ⟨m, p, T', g1, g2, hT', ?_⟩
  have bm : Bes 0 (n - 1) T a b m := .inl ⟨g1, g2, g3, g4⟩
  rcases g5 with ⟨q1, q2, q3, q4⟩ | ⟨q1, q2, q3, q4⟩
  · have bp : Bes 0 (n - 1) T a b p := .inr (.inl ⟨q1, q2, q3⟩)
    refine .inl ⟨q1, (tie_in hT q2).1, sorted_ext (besL_sorted ..) (by simp; omega) fun x => ?_, q4⟩
    rw [hm]
    simp only [List.mem_cons, List.not_mem_nil, or_false]
    constructor
    · intro g
      by_cases hx : a < x ∧ x < b
      · exact .inr (bes_in hT ti.2.1 g bm hx.1 hx.2 g1 g2)
      · exact .inl (bes_out hT ti.2.1 g bp hx (by omega))
    · rintro (rfl | rfl)
      · exact bp
      · exact bm
  · have bp : Bes 0 (n - 1) T a b p := .inr (.inr ⟨q1, q2, q3⟩)
    have tq := tie_in hT q2
    refine .inr ⟨q1, by omega, sorted_ext (besL_sorted ..) (by simp; omega) fun x => ?_, q4⟩
    rw [hm]
    simp only [List.mem_cons, List.not_mem_nil, or_false]
    constructor
    · intro g
      by_cases hx : a < x ∧ x < b
      · exact .inl (bes_in hT ti.2.1 g bm hx.1 hx.2 g1 g2)
      · exact .inr (bes_out hT ti.2.1 g bp hx (by omega))
    · rintro (rfl | rfl)
      · exact bm
      · exact bp
theorem beside_cnt {n : Int} {R t : List (Int × Int)} (hc : IsCut n R) (ht : ∀ p, p ∈ t ↔ p ∈ sidesL n ++ R) {a b : Int} (h : pr a b ∈ t) : (besL t n a b).length = 1 + (if pr a b ∈ R then 1 else 0) := by
  obtain ⟨T, hT, hR⟩ := hc.ex
  have ht' : ∀ a b, (a, b) ∈ t ↔ tie 0 (n - 1) T a b := fun a b => (ht _).trans (ties_iff hc.three hT hR a b)
  rw [besL_pr]
  generalize e : pr a b = q at *
  obtain ⟨a', b'⟩ := q
  have h' := (ht' a' b').mp h
  show (besL t n a' b').length = _
  by_cases hr : a' + 2 ≤ b' ∧ ¬ (a' = 0 ∧ b' = n - 1)
  · rw [if_pos ((hR a' b').mpr ⟨h', hr⟩)]
    obtain ⟨m, p, T', _, _, _, g | g⟩ := beside_rope hT ht' h' hr.1 hr.2
    · rw [g.2.2.1]; rfl
    · rw [g.2.2.1]; rfl
  · rw [if_neg (fun q => hr ((hR a' b').mp q).2)]
    obtain ⟨m, e⟩ := beside_side hc.three hT ht' h' hr
    rw [e]; rfl
/-- turning a rope makes a cutting -/
theorem turn_cut {n : Int} {R t : List (Int × Int)} (hc : IsCut n R) (ht : ∀ p, p ∈ t ↔ p ∈ sidesL n ++ R) {a b : Int} (h : (a, b) ∈ R) :
    ∃ x y, besL t n a b = [x, y] ∧ 0 ≤ x ∧ x < y ∧ y < n ∧ (x, y) ∉ R ∧ ((x < a ∧ a < y ∧ y < b) ∨ (a < x ∧ x < b ∧ b < y)) ∧ ∀ R' : List (Int × Int), R'.Nodup → (∀ p, p ∈ R' ↔ (p ∈ R ∧ p ≠ (a, b)) ∨ p = (x, y)) → IsCut n R' := by
  obtain ⟨T, hT, hR⟩ := hc.ex
  have ht' : ∀ a b, (a, b) ∈ t ↔ tie 0 (n - 1) T a b := fun a b => (ht _).trans (ties_iff hc.three hT hR a b)
  obtain ⟨h1, h2, h3⟩ := (hR a b).mp h
  have ti := tie_in hT h1
  obtain ⟨m, p, T', g1, g2, hT', g | g⟩ := beside_rope hT ht' h1 h2 h3
  · obtain ⟨q1, q2, q3, q4⟩ := g
    refine ⟨p, m, q3, q2, by omega, by omega, fun hm => ?_, .inl ⟨q1, g1, g2⟩, fun R' hn hR' => ⟨hc.three, hn, T', hT', fun x y => ?_⟩⟩
    · exact nocross hT ((hR p m).mp hm).1 h1 q1 g1 g2
    · rw [hR', hR, q4]
      constructor
      · rintro (⟨⟨w1, w2⟩, w3⟩ | w)
        · exact ⟨.inl ⟨w1, fun e => w3 (by rw [e.1, e.2])⟩, w2⟩
        · obtain ⟨rfl, rfl⟩ := Prod.mk.inj w
          exact ⟨.inr ⟨rfl, rfl⟩, by omega, by omega⟩
      · rintro ⟨⟨w1, w2⟩ | ⟨e1, e2⟩, w3⟩
        · exact .inl ⟨⟨w1, w3⟩, fun e => w2 (Prod.mk.inj e)⟩
        · exact .inr (by rw [e1, e2])
  · obtain ⟨q1, q2, q3, q4⟩ := g
    refine ⟨m, p, q3, by omega, by omega, q2, fun hm => ?_, .inr ⟨g1, g2, q1⟩, fun R' hn hR' => ⟨hc.three, hn, T', hT', fun x y => ?_⟩⟩
    · exact nocross hT h1 ((hR m p).mp hm).1 g1 g2 q1
    · rw [hR', hR, q4]
      constructor
      · rintro (⟨⟨w1, w2⟩, w3⟩ | w)
        · exact ⟨.inl ⟨w1, fun e => w3 (by rw [e.1, e.2])⟩, w2⟩
        · obtain ⟨rfl, rfl⟩ := Prod.mk.inj w
          exact ⟨.inr ⟨rfl, rfl⟩, by omega, by omega⟩
      · rintro ⟨⟨w1, w2⟩ | ⟨e1, e2⟩, w3⟩
        · exact .inl ⟨⟨w1, w3⟩, fun e => w2 (Prod.mk.inj e)⟩
        · exact .inr (by rw [e1, e2])

/-! ### how many cuttings -/
def hmI : Nat → Int
  | 0 => 1
  | i + 1 => (hmI i * (4 * (3 + (i : Int)) - 10)).fdiv (3 + (i : Int) - 1)
def catL : List Int := [1, 1, 2, 5, 14, 42, 132, 429, 1430, 4862, 16796]
theorem hm_cat : ∀ i, i < 11 → hmI i = catL.getD i 0 := by decide +kernel
def sp_howmany : Sp := fun vs H Q _ => ∃ n : Int, vs = [.int n] ∧ 2 ≤ n ∧ n ≤ 12 ∧ Q (.int (hmI (n - 2).toNat)) H
theorem ok_how_many (T : Env K mg) : FnOk P w K mg base CX0 1 T.a_how_many T.fd_how_many ["n"] sp_howmany := by
  refine T.F_how_many.ok sc_how_many (fun vs H Q E h => ?_) (fun cdv A outer s H vs Q E hr h => ?_)
  · obtain ⟨n, rfl, _⟩ := h
    rfl
  · obtain ⟨n, rfl, h2, h12, q⟩ := h
    refine ⟨_, (pss_cons (ps_set (i := 1) sc_how_many.nd rfl (.inl rfl) pe_int)
 (pss_cons (ps_for PassesOwn.never rfl (pi_range2 (by rfl) T.m_range (pa_cons pe_int (pa_cons (pe_op op_add (pv 0) pe_int) pa_nil))) (pg_name (i := 2) sc_how_many.nd rfl (.inl rfl))
 (pss_one (ps_set (i := 1) sc_how_many.nd rfl (.inl rfl) (pe_op op_fdivX (pe_op op_mulU (pv 1) (pe_op op_sub (pe_op op_mulU pe_int (pv 2)) pe_int)) (pe_op op_sub (pv 2) pe_int)))))
 (pss_one (ps_ret (pv 1))))), ?_⟩
    refine ⟨_, rfl, _, _, rfl, rfl, 3, n + 1, rfl, ⟨by decide, by decide, by omega, by omega⟩, for_range (lo := 3) (n := (n + 1 - 3).toNat) (fun i σ H' => H' = H ∧ ∃ z, σ = [some (.int n), some (.int (hmI i)), z]) ⟨rfl, _, rfl⟩ ?_ ?_⟩
    · rintro i σ H' hi ⟨rfl, z, rfl⟩
      refine ⟨_, rfl, _, rfl, _, _, rfl, rfl, mulL (by decide) (by decide), _, _, rfl, rfl, _, _, rfl, rfl, mulR (by omega) (by omega), _, rfl, _, _, rfl, rfl, _, _, rfl, rfl, ⟨by omega, log_small (b := 64) (by decide) (by omega) (by decide)⟩, ?_⟩
      exact ⟨rfl, _, rfl⟩
    · rintro σ H' ⟨rfl, z, rfl⟩
      rw [show (n + 1 - 3).toNat = (n - 2).toNat by omega]
      exact ⟨_, rfl, q⟩

/-! ### numbers of cuttings: the mathematics -/
def cS (d : Nat) : Nat → Int
  | 0 => 0
  | i + 1 => cS d i + hmI i * hmI (d - 2 - i)
theorem hm_pos : ∀ i, i < 11 → 1 ≤ hmI i ∧ hmI i ≤ 16796 := by decide +kernel
theorem cS_all : ∀ d, d < 12 → 2 ≤ d → cS d (d - 1) = hmI (d - 1) := by decide +kernel
theorem cS_mono {d : Nat} (hd : d < 12) : ∀ {i j : Nat}, i ≤ j → j ≤ 11 → cS d i ≤ cS d j := by
  intro i j h
  induction j with
  | zero => intro _; rw [Nat.le_zero.mp h]; exact Int.le_refl _
  | succ j ih =>
    intro hj
    rcases Nat.lt_or_ge i (j + 1) with h1 | h1
    · have := ih (by omega) (by omega)
      have p1 := hm_pos j (by omega)
      have p2 := hm_pos (d - 2 - j) (by omega)
      have : 0 ≤ hmI j * hmI (d - 2 - j) := Int.mul_nonneg (by omega) (by omega)
      show cS d i ≤ cS d j + _
      omega
    · have : i = j + 1 := by omega
      rw [this]; exact Int.le_refl _
def numT : Int → Int → Tr → Int
  | _, _, .lf => 0
  | lo, hi, .nd m l r => cS (hi - lo).toNat (m - lo - 1).toNat + numT lo m l * hmI (hi - m - 1).toNat + numT m hi r
def nodesL : Int → Int → Tr → List (Int × Int)
  | _, _, .lf => []
  | lo, hi, .nd m l r => (lo, hi) :: (nodesL lo m l ++ nodesL m hi r)
/-- S has all posts between -/
def Full (S : Int → Prop) (lo hi : Int) : Prop := ∀ z, lo ≤ z → z ≤ hi → S z
theorem Full.sub {S : Int → Prop} {lo hi a b : Int} (h : Full S lo hi) (h1 : lo ≤ a) (h2 : b ≤ hi) : Full S a b := fun z z1 z2 => h z (by omega) (by omega)
theorem lf_one {S : Int → Prop} {lo hi : Int} (f : Full S lo hi) (h : TOk S lo hi .lf) : hi = lo + 1 := by
  have h1 := h.1
  rcases Int.lt_or_le (lo + 1) hi with q | q
  · exact absurd ⟨by omega, q⟩ (h.2 (lo + 1) (f _ (by omega) (by omega)))
  · omega
theorem prod_step {x a y b : Int} (hx : x + 1 ≤ a) (hy : y < b) (hb : 0 ≤ b) : x * b + y < a * b := by
  have : (x + 1) * b ≤ a * b := Int.mul_le_mul_of_nonneg_right hx hb
  rw [Int.add_mul, Int.one_mul] at this
  omega
theorem num_bd {S : Int → Prop} : ∀ {T : Tr} {lo hi : Int}, TOk S lo hi T → Full S lo hi → hi - lo ≤ 11 → 0 ≤ numT lo hi T ∧ numT lo hi T < hmI (hi - lo - 1).toNat
  | .lf, lo, hi, h, f, hd => by
    have := lf_one f h
    subst this
    rw [show (lo + 1 - lo - 1).toNat = 0 by omega]
    exact ⟨Int.le_refl _, (by show (0 : Int) < 1; decide)⟩
  | .nd m l r, lo, hi, ⟨sm, k1, k2⟩, f, hd => by
    have q1 := k1.lt
    have q2 := k2.lt
    have b1 := num_bd k1 (f.sub (Int.le_refl _) (by omega)) (by omega)
    have b2 := num_bd k2 (f.sub (by omega) (Int.le_refl _)) (by omega)
    have p2 := hm_pos (hi - m - 1).toNat (by omega)
    have key := prod_step (x := numT lo m l) (a := hmI (m - lo - 1).toNat) (y := numT m hi r) (b := hmI (hi - m - 1).toNat) (by omega) b2.2 (by omega)
    have np : 0 ≤ numT lo m l * hmI (hi - m - 1).toNat := Int.mul_nonneg b1.1 (by omega)
    have st : cS (hi - lo).toNat ((m - lo - 1).toNat + 1) = cS (hi - lo).toNat (m - lo - 1).toNat + hmI (m - lo - 1).toNat * hmI (hi - m - 1).toNat := by
      show _ + hmI _ * hmI ((hi - lo).toNat - 2 - (m - lo - 1).toNat) = _
      rw [show (hi - lo).toNat - 2 - (m - lo - 1).toNat = (hi - m - 1).toNat by omega]
    have mo := cS_mono (d := (hi - lo).toNat) (by omega) (i := (m - lo - 1).toNat + 1) (j := (hi - lo).toNat - 1) (by omega) (by omega)
    rw [cS_all _ (by omega) (by omega), st] at mo
    have z0 := cS_mono (d := (hi - lo).toNat) (by omega) (i := 0) (j := (m - lo - 1).toNat) (by omega) (by omega)
    have z0 : 0 ≤ cS (hi - lo).toNat (m - lo - 1).toNat := z0
    rw [show (hi - lo - 1).toNat = (hi - lo).toNat - 1 by omega]
    show 0 ≤ _ + _ + _ ∧ _ + _ + _ < _
    omega
/-- the order of cuttings, as it is walked -/
def ordT : Int → Int → Tr → Tr → Int
  | lo, hi, .nd m l r, .nd m' l' r' => if m = m' then (if ordT lo m l l' = 0 then ordT m hi r r' else ordT lo m l l') else m - m'
  | _, _, _, _ => 0
theorem ord_num {S : Int → Prop} : ∀ {T T' : Tr} {lo hi : Int}, TOk S lo hi T → TOk S lo hi T' → Full S lo hi → hi - lo ≤ 11 →
    (ordT lo hi T T' = 0 ∧ T = T') ∨ (ordT lo hi T T' < 0 ∧ numT lo hi T < numT lo hi T') ∨ (0 < ordT lo hi T T' ∧ numT lo hi T' < numT lo hi T)
  | .lf, .lf, lo, hi, h, h', f, hd => .inl ⟨rfl, rfl⟩
  | .lf, .nd m l r, lo, hi, h, ⟨_, k1, k2⟩, f, hd => by
    have := lf_one f h
    have := k1.lt
    have := k2.lt
    omega
  | .nd m l r, .lf, lo, hi, ⟨_, k1, k2⟩, h, f, hd => by
    have := lf_one f h
    have := k1.lt
    have := k2.lt
    omega
  | .nd m l r, .nd m' l' r', lo, hi, ⟨sm, k1, k2⟩, ⟨sm', k1', k2'⟩, f, hd => by
    have q1 := k1.lt
    have q2 := k2.lt
    have q1' := k1'.lt
    have q2' := k2'.lt
    have far : ∀ {m m' : Int} {l r l' r' : Tr}, TOk S lo m l → TOk S m hi r → TOk S lo m' l' → TOk S m' hi r' → m < m' → numT lo hi (.nd m l r) < numT lo hi (.nd m' l' r') := by
      intro m m' l r l' r' k1 k2 k1' k2' hm
      have q1 := k1.lt
      have q2 := k2.lt
      have q1' := k1'.lt
      have q2' := k2'.lt
      have b1 := num_bd k1 (f.sub (Int.le_refl _) (by omega)) (by omega)
      have b2 := num_bd k2 (f.sub (by omega) (Int.le_refl _)) (by omega)
      have b1' := num_bd k1' (f.sub (Int.le_refl _) (by omega)) (by omega)
      have b2' := num_bd k2' (f.sub (by omega) (Int.le_refl _)) (by omega)
      have p2 := hm_pos (hi - m - 1).toNat (by omega)
      have p2' := hm_pos (hi - m' - 1).toNat (by omega)
      have key := prod_step (x := numT lo m l) (a := hmI (m - lo - 1).toNat) (y := numT m hi r) (b := hmI (hi - m - 1).toNat) (by omega) b2.2 (by omega)
      have np : 0 ≤ numT lo m' l' * hmI (hi - m' - 1).toNat := Int.mul_nonneg b1'.1 (by omega)
      have st : cS (hi - lo).toNat ((m - lo - 1).toNat + 1) = cS (hi - lo).toNat (m - lo - 1).toNat + hmI (m - lo - 1).toNat * hmI (hi - m - 1).toNat := by
        show _ + hmI _ * hmI ((hi - lo).toNat - 2 - (m - lo - 1).toNat) = _
        rw [show (hi - lo).toNat - 2 - (m - lo - 1).toNat = (hi - m - 1).toNat by omega]
      have mo := cS_mono (d := (hi - lo).toNat) (by omega) (i := (m - lo - 1).toNat + 1) (j := (m' - lo - 1).toNat) (by omega) (by omega)
      rw [st] at mo
      show _ + _ + _ < _ + _ + _
      omega
    show (ite _ _ _ = 0 ∧ _) ∨ (ite _ _ _ < 0 ∧ _) ∨ (0 < ite _ _ _ ∧ _)
    rcases Int.lt_trichotomy m m' with hm | hm | hm
    · rw [if_neg (by omega)]
      exact .inr (.inl ⟨by omega, far k1 k2 k1' k2' hm⟩)
    · subst hm
      rw [if_pos rfl]
      have b2 := num_bd k2 (f.sub (by omega) (Int.le_refl _)) (by omega)
      have b2' := num_bd k2' (f.sub (by omega) (Int.le_refl _)) (by omega)
      have p2 := hm_pos (hi - m - 1).toNat (by omega)
      rcases ord_num k1 k1' (f.sub (Int.le_refl _) (by omega)) (by omega) with ⟨e1, e2⟩ | ⟨e1, e2⟩ | ⟨e1, e2⟩
      · rw [if_pos e1]
        subst e2
        rcases ord_num k2 k2' (f.sub (by omega) (Int.le_refl _)) (by omega) with ⟨d1, d2⟩ | ⟨d1, d2⟩ | ⟨d1, d2⟩
        · exact .inl ⟨d1, by rw [d2]⟩
        · refine .inr (.inl ⟨d1, ?_⟩)
          show _ + _ + _ < _ + _ + _
          omega
        · refine .inr (.inr ⟨d1, ?_⟩)
          show _ + _ + _ < _ + _ + _
          omega
      · rw [if_neg (by omega)]
        refine .inr (.inl ⟨e1, ?_⟩)
        have key := prod_step (x := numT lo m l) (a := numT lo m l') (y := numT m hi r) (b := hmI (hi - m - 1).toNat) (by omega) b2.2 (by omega)
        show _ + _ + _ < _ + _ + _
        omega
      · rw [if_neg (by omega)]
        refine .inr (.inr ⟨e1, ?_⟩)
        have key := prod_step (x := numT lo m l') (a := numT lo m l) (y := numT m hi r') (b := hmI (hi - m - 1).toNat) (by omega) b2'.2 (by omega)
        show _ + _ + _ < _ + _ + _
        omega
    · rw [if_neg (by omega)]
      exact .inr (.inr ⟨by omega, far k1' k2' k1 k2 hm⟩)
theorem num_inj {S : Int → Prop} {T T' : Tr} {lo hi : Int} (h : TOk S lo hi T) (h' : TOk S lo hi T') (f : Full S lo hi) (hd : hi - lo ≤ 11) (e : numT lo hi T = numT lo hi T') : T = T' := by
  rcases ord_num h h' f hd with q | q | q
  · exact q.2
  · omega
  · omega
/-- each number below the count is some tree's -/
theorem num_ex {S : Int → Prop} : ∀ (d : Nat) {lo hi : Int}, hi - lo = (d : Int) + 1 → d ≤ 10 → Full S lo hi → ∀ k : Int, 0 ≤ k → k < hmI d → ∃ T, TOk S lo hi T ∧ numT lo hi T = k := by
  intro d
  induction d using Nat.strongRecOn with
  | _ d ih =>
    intro lo hi hd h10 f k k0 k1
    by_cases d0 : d = 0
    · subst d0
      have : hmI 0 = 1 := rfl
      exact ⟨.lf, ⟨by omega, fun z _ hh => by omega⟩, (by show 0 = k; omega)⟩
    · -- the place where k falls
      have fall : ∀ j : Nat, j ≤ d → k < cS (d + 1) j → ∃ i, i < j ∧ cS (d + 1) i ≤ k ∧ k < cS (d + 1) (i + 1) := by
        intro j
        induction j with
        | zero => intro _ h; exact absurd h (by show ¬ k < 0; omega)
        | succ j jh =>
          intro hj h
          rcases Int.lt_or_le k (cS (d + 1) j) with q | q
          · obtain ⟨i, i1, i2⟩ := jh (by omega) q
            exact ⟨i, by omega, i2⟩
          · exact ⟨j, by omega, q, h⟩
      have tot : cS (d + 1) d = hmI d := by have := cS_all (d + 1) (by omega) (by omega); simpa using this
      obtain ⟨i, i1, i2, i3⟩ := fall d (Nat.le_refl _) (by rw [tot]; exact k1)
      have i3 : k < cS (d + 1) i + hmI i * hmI (d + 1 - 2 - i) := i3
      have p1 := hm_pos i (by omega)
      have p2 := hm_pos (d + 1 - 2 - i) (by omega)
      generalize hR : hmI (d + 1 - 2 - i) = R at *
      have r0 := Int.emod_nonneg (k - cS (d + 1) i) (show R ≠ 0 by omega)
      have r1 := Int.emod_lt_of_pos (k - cS (d + 1) i) (show 0 < R by omega)
      have rd := Int.mul_ediv_add_emod (k - cS (d + 1) i) R
      have q0 : 0 ≤ (k - cS (d + 1) i) / R := Int.ediv_nonneg (by omega) (by omega)
      have q1 : (k - cS (d + 1) i) / R < hmI i := Int.ediv_lt_of_lt_mul (by omega) (by omega)
      generalize (k - cS (d + 1) i) / R = x at *
      generalize (k - cS (d + 1) i) % R = y at *
      obtain ⟨l, hl, el⟩ := ih i i1 (lo := lo) (hi := lo + 1 + i) (by omega) (by omega) (f.sub (Int.le_refl _) (by omega)) x q0 q1
      obtain ⟨r, hr, er⟩ := ih (d + 1 - 2 - i) (by omega) (lo := lo + 1 + i) (hi := hi) (by omega) (by omega) (f.sub (by omega) (Int.le_refl _)) y r0 (by rw [hR]; exact r1)
      refine ⟨.nd (lo + 1 + i) l r, ⟨f _ (by omega) (by omega), hl, hr⟩, ?_⟩
      show cS _ _ + numT _ _ _ * hmI _ + numT _ _ _ = k
      rw [el, er, show (hi - lo).toNat = d + 1 by omega, show (lo + 1 + (i : Int) - lo - 1).toNat = i by omega, show (hi - (lo + 1 + (i : Int)) - 1).toNat = d + 1 - 2 - i by omega, hR, Int.mul_comm x R]
      omega
theorem nodes_mem {S : Int → Prop} : ∀ {T : Tr} {lo hi : Int}, TOk S lo hi T → Full S lo hi → ∀ a b, (a, b) ∈ nodesL lo hi T ↔ tie lo hi T a b ∧ a + 2 ≤ b
  | .lf, lo, hi, h, f, a, b => by
    have := lf_one f h
    constructor
    · intro q; cases q
    · rintro ⟨⟨e1, e2⟩, q⟩; omega
  | .nd m l r, lo, hi, ⟨sm, k1, k2⟩, f, a, b => by
    have q1 := k1.lt
    have q2 := k2.lt
    show (a, b) ∈ (lo, hi) :: (_ ++ _) ↔ _
    rw [List.mem_cons, List.mem_append, nodes_mem k1 (f.sub (Int.le_refl _) (by omega)), nodes_mem k2 (f.sub (by omega) (Int.le_refl _))]
    constructor
    · rintro (h | h | h)
      · obtain ⟨rfl, rfl⟩ := Prod.mk.inj h
        exact ⟨.inl ⟨rfl, rfl⟩, by omega⟩
      · exact ⟨.inr (.inl h.1), h.2⟩
      · exact ⟨.inr (.inr h.1), h.2⟩
    · rintro ⟨h | h | h, q⟩
      · exact .inl (by rw [h.1, h.2])
      · exact .inr (.inl ⟨h, q⟩)
      · exact .inr (.inr ⟨h, q⟩)
theorem nodes_len {S : Int → Prop} : ∀ {T : Tr} {lo hi : Int}, TOk S lo hi T → Full S lo hi → ((nodesL lo hi T).length : Int) = hi - lo - 1
  | .lf, lo, hi, h, f => by
    have := lf_one f h
    show ((0 : Nat) : Int) = _
    omega
  | .nd m l r, lo, hi, ⟨sm, k1, k2⟩, f => by
    have q1 := k1.lt
    have q2 := k2.lt
    have e1 := nodes_len k1 (f.sub (Int.le_refl _) (by omega))
    have e2 := nodes_len k2 (f.sub (by omega) (Int.le_refl _))
    show (((lo, hi) :: (_ ++ _)).length : Int) = _
    rw [List.length_cons, List.length_append]
    omega
theorem nodes_nodup {S : Int → Prop} : ∀ {T : Tr} {lo hi : Int}, TOk S lo hi T → Full S lo hi → (nodesL lo hi T).Nodup
  | .lf, lo, hi, h, f => List.nodup_nil
  | .nd m l r, lo, hi, ⟨sm, k1, k2⟩, f => by
    have q1 := k1.lt
    have q2 := k2.lt
    have f1 := f.sub (Int.le_refl _) (show m ≤ hi by omega)
    have f2 := f.sub (show lo ≤ m by omega) (Int.le_refl _)
    show ((lo, hi) :: (_ ++ _)).Nodup
    rw [List.nodup_cons, List.nodup_append]
    refine ⟨fun h => ?_, nodes_nodup k1 f1, nodes_nodup k2 f2, fun u hu v hv => ?_⟩
    · rcases List.mem_append.mp h with h | h
      · have := tie_in k1 ((nodes_mem k1 f1 _ _).mp h).1; omega
      · have := tie_in k2 ((nodes_mem k2 f2 _ _).mp h).1; omega
    · obtain ⟨a, b⟩ := u
      obtain ⟨c, d⟩ := v
      have t1 := tie_in k1 ((nodes_mem k1 f1 _ _).mp hu).1
      have t2 := tie_in k2 ((nodes_mem k2 f2 _ _).mp hv).1
      intro e
      obtain ⟨rfl, rfl⟩ := Prod.mk.inj e
      omega

/-! ### {key: value for ..}, the keys tuples -/
section
variable {X : Cx}
theorem put_dt {pins : List (Addr × Obj)} {σ : L2.St} {H : Hp} {s : Shared} {Z : Value → Shared → Prop} {d b : Addr} {kvs : List (List L2.Key × V)} {k : List L2.Key} {v : V} {r : Value} {R : Unit → Shared → Prop} (hu : X.A.units + 1 < cLine)
    (J : Inv X pins σ H s) (ed : H d = some (.dT kvs)) (eb : H b = some (.tup (k.map kV))) (few : kvs.length < sizeLine) (rv : RelV v r) (go : ∀ s2, Inv X pins σ (upd H d (.dT (putK kvs k v))) s2 → R () s2) :
    wpAny (model X.prog X.w) X.A (dictSet d (.ref b) r) R Z s := by
  obtain ⟨lz, nd, ms, al, ent⟩ := dt_of J.hok ed
  have lm : ms.length ≤ sizeLine := (Paired.length al) ▸ lz
  have lput : (putK kvs k v).length ≤ sizeLine := Nat.le_trans (length_putK kvs k v) (by omega)
  refine wpAny_dictSet_heap (hsz := lm) (show X.A.units < cLine by omega) (key_of J.hok eb) ent fun g ent2 sb => go _ ?_
  obtain ⟨ob, e1, n1, w1, w2, w3, w4, _, w5⟩ := ent2
  refine d_write J (by rw [ed]; exact True.intro) sb ⟨ob, w1⟩ ⟨lput, nd, _, ?_, ob, e1, n1, w1, w2, w3, w4, w5⟩
  refine (al.put k eb rv).keeps fun c ys hc => ?_
  rw [upd_ne (ne_of hc ed (fun q => nomatch q))]
  exact hc
/-- D is the new dict -/
def tDct (wi : TI) (g : TG) (tt : TT) (tk tv : TE) (vs : List Nat) : TE := fun σ H Q => wi σ H fun J H1 => ∀ D, H1 D = none → ∃ W : Nat → Nat → Hp → Prop, (∃ m, W 0 m (upd H1 D (.dT []))) ∧ ∀ i m H, W i m H →
  (J.stop i H ∧ Q (.ref D) H) ∨ (J.go i H ∧ ∃ Nx : Hp → Prop, (∀ H', Nx H' → ∃ m', m' < m ∧ W (i + 1) m' H') ∧ ∀ x H', J.yld i H x H' → g x (wipe σ vs) H' fun σ2 H2 => wipe σ2 vs = wipe σ vs ∧ tt σ2 H2 fun b H3 =>
    if b = true then tk σ2 H3 fun y H4 => tv σ2 H4 fun z H5 => ∃ kvs k c, y = .ref c ∧ H5 c = some (.tup (k.map kV)) ∧ H5 D = some (.dT kvs) ∧ kvs.length < sizeLine ∧ Nx (upd H5 D (.dT (putK kvs k z))) else Nx H3)
end

section
variable {X : Cx}
theorem dct_block {pins : List (Addr × Obj)} {s : Shared} {σ : L2.St} {H : Hp} {Q : VK} {kx vx tg iter : Expr} {ifs : List Expr} {scope : Scope} {own : List (Str × Nat)} {pos at0 : Pos} {wi : TI} {g : TG} {tt : TT} {tk tv : TE} {use : Option (Value → Sem Unit)} {Z : Value → Shared → Prop}
    (cal : X.calm = true) (hu : X.A.units + 1 < cLine) (uniq : X.N.Nodup) (I : Inv X pins σ H s) (walk : PI X tg iter wi) (blk : BlkOk X.N X.env.scope scope own)
    (ptg : ∀ (s0 : Shared) (H0 : Hp) (C0 : Addr) (cs : List (Str × Addr)) (ad : List Addr), PG (X.blk s0 H0 scope (compEnvC scope cs C0 X.env) ad) tg g)
    (pts : ∀ (s0 : Shared) (H0 : Hp) (C0 : Addr) (cs : List (Str × Addr)) (ad : List Addr), PTs (X.blk s0 H0 scope (compEnvC scope cs C0 X.env) ad) ifs tt)
    (pky : ∀ (s0 : Shared) (H0 : Hp) (C0 : Addr) (cs : List (Str × Addr)) (ad : List Addr), PE (X.blk s0 H0 scope (compEnvC scope cs C0 X.env) ad) kx tk)
    (pvl : ∀ (s0 : Shared) (H0 : Hp) (C0 : Addr) (cs : List (Str × Addr)) (ad : List Addr), PE (X.blk s0 H0 scope (compEnvC scope cs C0 X.env) ad) vx tv)
    (fold : ∀ x, foldedSetIterable iter X.env x = pure x) (rd : tDct wi g tt tk tv (own.map (·.2)) σ H Q)
    (fin : ∀ D C sf names F, Inv X pins σ F sf → Q (.ref D) F → sf.heap.Ns C names → FpOk X pins F C → compPost (model X.prog X.w) X.A X.xe use Z (.ref D) C (.ok .next) sf) :
    wpAny (model X.prog X.w) X.A (comprehension (.DictComp kx vx [⟨tg, iter, ifs, 0⟩] scope pos) scope X.env at0 newDict false (eval iter X.env) use) Z X.xe s := by
  have cells : ∀ y ∈ scope.names, y.2 = .free → ∃ c, X.env.cells.lookup y.1 = some c := fun y my ey =>
    (blk.free y my ey).elim (fun z => I.ok.has _ (.inl z)) (fun z => I.ok.has _ (.inr z))
  refine wpAny_comprehension_free (use := use) rfl fold (closure_ok cells) blk.kind (fun y my ey => (blk.uniq y my).trans (by rw [ey])) (thn (walk.run pins s σ H _ I rd) fun x0 sa ha => thn ha fun i0 sb hb => ?_)
  obtain ⟨itA, ad, stn, J, Hb, rfl, Ib, Trn, stb, frb, body⟩ := hb
  refine wpAny_newObj_type (newEnv_comp ?_)
  obtain ⟨D, eD⟩ : ∃ D, D = sb.heap.objs.size := ⟨_, rfl⟩
  rw [← eD]
  have freeD : Hb D = none := Ib.hok.fresh (Nat.le_of_eq eD.symm)
  obtain ⟨W, ⟨mS, wS⟩, each⟩ := body D freeD
  obtain ⟨sc, esc⟩ : ∃ sc : Shared, sc = { sb with heap := sb.heap.push { cls := .type "dict", data := .dict #[] } } := ⟨_, rfl⟩
  obtain ⟨Hc, eHc⟩ : ∃ Hc, Hc = upd Hb D (.dT []) := ⟨_, rfl⟩
  have hpc : sc.heap = sb.heap.push { cls := .type "dict", data := .dict #[] } := by rw [esc]
  have Ic : Inv X pins σ Hc sc := by
    rw [eHc, esc]
    refine Ib.laid (t' := sb.toks) (fun b o z => Heap.get?_push_of_some _ z) (Nat.le_of_eq eD.symm) ?_
    rw [eD]
    exact dt_empty sb.heap Ib.big
  have small : ∀ b ∈ ad, b < sb.heap.objs.size := fun b mb => let ⟨_, ob, _⟩ := Trn.obj _ _ stb b mb; Heap.lt_size ob
  have frc : ∀ b ∈ ad, FpOk X pins Hc b ∧ b < sc.heap.objs.size := fun b mb => by
    have lb := small b mb
    refine ⟨⟨?_, (frb b mb).2⟩, by rw [hpc, Heap.size_push]; exact Nat.lt_succ_of_lt lb⟩
    rw [eHc, upd_ne (by rw [eD]; exact Nat.ne_of_lt lb)]
    exact (frb b mb).1
  have stc : stn 0 sc.heap := Trn.keep _ _ _ stb fun b _ o z => by rw [hpc]; exact Heap.get?_push_of_some _ z
  have Id := block_start Ic blk uniq frc
  have g1 := ptg sc Hc sc.heap.objs.size (cellsFrom (sc.heap.objs.size + 1) scope.names (cloFrom X.env.cells scope.names [])) ad
  have t1 := pts sc Hc sc.heap.objs.size (cellsFrom (sc.heap.objs.size + 1) scope.names (cloFrom X.env.cells scope.names [])) ad
  have k1 := pky sc Hc sc.heap.objs.size (cellsFrom (sc.heap.objs.size + 1) scope.names (cloFrom X.env.cells scope.names [])) ad
  have v1 := pvl sc Hc sc.heap.objs.size (cellsFrom (sc.heap.objs.size + 1) scope.names (cloFrom X.env.cells scope.names [])) ad
  have nadc : ∀ b ∈ ad, Hc b = none := fun b mb => (frc b mb).1.1
  rw [← esc]
  rw [← eHc] at wS
  show codeAny _ _ (.compStart (.DictComp kx vx [⟨tg, iter, ifs, 0⟩] scope pos) 0 (.ref itA) (.ref D) (compEnvC scope (cellsFrom (sc.heap.objs.size + 1) scope.names (cloFrom X.env.cells scope.names [])) sc.heap.objs.size X.env)) (compPost (model X.prog X.w) X.A X.xe use Z (.ref D) sc.heap.objs.size) { sc with heap := pushCells (sc.heap.push { cls := .type "dict", data := .dict #[] }) scope.names }
  obtain ⟨bE, hbE⟩ : ∃ bE, bE = compEnvC scope (cellsFrom (sc.heap.objs.size + 1) scope.names (cloFrom X.env.cells scope.names [])) sc.heap.objs.size X.env := ⟨_, rfl⟩
  have atL : bE.locals = sc.heap.objs.size := by rw [hbE]; rfl
  rw [← hbE] at Id g1 t1 k1 v1 ⊢
  obtain ⟨sd, esd⟩ : ∃ sd : Shared, sd = { sc with heap := pushCells (sc.heap.push { cls := .type "dict", data := .dict #[] }) scope.names } := ⟨_, rfl⟩
  have std : stn 0 sd.heap := Trn.keep _ _ _ stc fun b _ o z => by rw [esd]; exact pushCells_keeps _ _ _ _ (Heap.get?_push_of_some _ z)
  rw [← esd] at Id ⊢
  have firm : ∀ {τ : L2.St} {F : Hp} {u : Shared}, Inv (X.blk sc Hc scope bE ad) [] τ F u → (∀ b ∈ ad, F b = none) → ∀ b ∈ ad, FpOk (X.blk sc Hc scope bE ad) [] F b := fun {τ F u} Iu nu b mb =>
    ⟨nu b mb, (Iu.ok.exf b mb).1, Iu.ok.exfs b mb, Or.inl mb, fun x c z => (Iu.ok.exf b mb).2 x c z, fun p mp => by cases (show p ∈ ([] : List (Addr × Obj)) from mp)⟩
  refine codeAny_compStart_dict ?loop (Trn.self X.A 0 _ _ _ std ?loop)
  refine compLoop_anyD (fun m u => ∃ i F, Inv (X.blk sc Hc scope bE ad) [] (wipe σ (own.map (·.2))) F u ∧ stn i u.heap ∧ (∀ b ∈ ad, F b = none) ∧ W i m F) ?_ mS ⟨0, Hc, Id, std, nadc, wS⟩
  rintro m se ⟨i, F, Ie, ste, nde, we⟩
  rcases each i m F we with ⟨ends, post⟩ | ⟨goes, Nx, falls, turn⟩
  · refine thnF (Trn.done (X.blk sc Hc scope bE ad) rfl rfl rfl cal i [] se _ F (fun _ _ => False) Ie (firm Ie nde) ste ends) fun r sf ⟨er, If⟩ => ?_
    subst er
    have Ig : Inv X pins σ F sf := Ic.call' (ch := ad) If.os If.base If.hok If.bare fun b mb =>
      let z := (frc b mb).1
      ⟨z.2.2.2.1, z.2.1, z.2.2.2.2.1, z.2.2.2.2.2⟩
    have nl : F sc.heap.objs.size = none := by rw [← atL]; exact If.free
    obtain ⟨names, ns, _⟩ := If.loc
    have ns : sf.heap.Ns bE.locals names := ns
    rw [atL] at ns
    exact fin D _ sf names F Ig post ns (Ic.fpOk (Nat.le_refl _) nl)
  · refine thnF (Trn.item (X.blk sc Hc scope bE ad) rfl rfl rfl cal i [] se _ F (fun _ _ => False) Ie (firm Ie nde) ste goes) fun r sf ⟨u, er, hf⟩ => ?_
    subst er
    refine thnF hf fun _ sg ⟨x, G, Ig, rg, yg, stg, ndg⟩ => ?_
    have Ip := Ig.pinned (firm Ig ndg) (Trn.obj _ _ stg)
    refine thnF (g1.run _ sg _ G x u _ Ip rg (turn x G yg)) fun _ sh ⟨τ, Hh, Ih, wh, rest⟩ => ?_
    refine thnF (t1.run _ sh τ Hh _ Ih rest) fun yes si ⟨Hi, Ii, qi⟩ => ?_
    have close : ∀ {u : Shared} {F2 : Hp}, Inv (X.blk sc Hc scope bE ad) ([] ++ pinsAt ad sg.heap) τ F2 u → Nx F2 → ∃ m2, m2 < m ∧ ∃ i F, Inv (X.blk sc Hc scope bE ad) [] (wipe σ (own.map (·.2))) F u ∧ stn i u.heap ∧ (∀ b ∈ ad, F b = none) ∧ W i m2 F := fun {u F2} Iu nx => by
      obtain ⟨m2, less, w2⟩ := falls F2 nx
      have pinned : ∀ b ∈ ad, ∀ o, sg.heap.get? b = some o → u.heap.get? b = some o ∧ F2 b = none := fun b mb o z => by
        have zz := Iu.pin (b, o) (List.mem_append_right _ (List.mem_append_right _ (mem_pinsAt mb z)))
        exact ⟨zz.1, zz.2.1⟩
      have same : (wipe σ (own.map (·.2))).length = τ.length := by rw [← wh, wipe_length]
      refine ⟨m2, less, i + 1, F2, (Iu.unpinned (pins := [])).weak same (fun j v z => ?_), Trn.keep _ _ _ stg fun b mb o z => (pinned b mb o z).1, fun b mb => ?_, w2⟩
      · exact (wipe_some (by rw [wh]; exact z)).1
      · exact let ⟨o, z, _⟩ := Trn.obj _ _ stg b mb; (pinned b mb o z).2
    cases yes with
    | false =>
      rw [if_neg Bool.false_ne_true] at qi ⊢
      exact close Ii qi
    | true =>
      rw [if_pos rfl] at qi ⊢
      refine thnF (k1.run _ si τ Hi _ Ii qi) fun ku sj ⟨yk, Hj, Ij, rj, qj⟩ => ?_
      refine thnF (v1.run _ sj τ Hj _ Ij qj) fun vu sk ⟨yv, Hk, Ik, rk, kvs, k, c, ek, ec, eDk, few, nx⟩ => ?_
      subst ek
      obtain rfl : ku = Value.ref c := rj
      exact put_dt (X := X.blk sc Hc scope bE ad) hu Ik eDk ec few rk fun sl Il => close Il nx
theorem pe_dct {kx vx tg iter : Expr} {ifs : List Expr} {scope : Scope} {own : List (Str × Nat)} {pos : Pos} {wi : TI} {g : TG} {tt : TT} {tk tv : TE} (cal : X.calm = true) (hu : X.A.units + 1 < cLine) (uniq : X.N.Nodup) (walk : PI X tg iter wi) (blk : BlkOk X.N X.env.scope scope own)
    (ptg : ∀ (s0 : Shared) (H0 : Hp) (C0 : Addr) (cs : List (Str × Addr)) (ad : List Addr), PG (X.blk s0 H0 scope (compEnvC scope cs C0 X.env) ad) tg g)
    (pts : ∀ (s0 : Shared) (H0 : Hp) (C0 : Addr) (cs : List (Str × Addr)) (ad : List Addr), PTs (X.blk s0 H0 scope (compEnvC scope cs C0 X.env) ad) ifs tt)
    (pky : ∀ (s0 : Shared) (H0 : Hp) (C0 : Addr) (cs : List (Str × Addr)) (ad : List Addr), PE (X.blk s0 H0 scope (compEnvC scope cs C0 X.env) ad) kx tk)
    (pvl : ∀ (s0 : Shared) (H0 : Hp) (C0 : Addr) (cs : List (Str × Addr)) (ad : List Addr), PE (X.blk s0 H0 scope (compEnvC scope cs C0 X.env) ad) vx tv)
    (fold : ∀ x, foldedSetIterable iter X.env x = pure x := by intro _; rfl) :
    PE X (.DictComp kx vx [⟨tg, iter, ifs, 0⟩] scope pos) (tDct wi g tt tk tv (own.map (·.2))) := by
  refine ⟨fun pins s σ H Q I rd => ?_⟩
  rw [arm_eval_DictComp]
  refine dct_block cal hu uniq I walk blk ptg pts pky pvl fold rd fun D C sf names F If qf ns fp => ⟨names, ns, fun h2 sb2 => ?_⟩
  exact let ⟨f0, f1, f2, f3, f4, f5⟩ := fp; ⟨.ref D, F, If.turned (t' := sf.toks) (fun b o mb z => (sb2.2 b mb).trans z) f0 f1 f3 f4 f5, rfl, qf⟩
theorem ps_setDct {i : Nat} {y : Str} {py : Pos} {kx vx tg iter : Expr} {ifs : List Expr} {scope : Scope} {own : List (Str × Nat)} {pos spos : Pos} {wi : TI} {g : TG} {tt : TT} {tk tv : TE} (cal : X.calm = true) (hu : X.A.units + 1 < cLine) (uniq : X.N.Nodup) (hy : X.N[i]? = some y)
    (loc : X.env.scope.names.lookup y = some .local) (swp : swapsWith (.DictComp kx vx [⟨tg, iter, ifs, 0⟩] scope pos) (some (.Name y py)) spos.line X.env = pure true) (walk : PI X tg iter wi) (blk : BlkOk X.N X.env.scope scope own)
    (ptg : ∀ (s0 : Shared) (H0 : Hp) (C0 : Addr) (cs : List (Str × Addr)) (ad : List Addr), PG (X.blk s0 H0 scope (compEnvC scope cs C0 X.env) ad) tg g)
    (pts : ∀ (s0 : Shared) (H0 : Hp) (C0 : Addr) (cs : List (Str × Addr)) (ad : List Addr), PTs (X.blk s0 H0 scope (compEnvC scope cs C0 X.env) ad) ifs tt)
    (pky : ∀ (s0 : Shared) (H0 : Hp) (C0 : Addr) (cs : List (Str × Addr)) (ad : List Addr), PE (X.blk s0 H0 scope (compEnvC scope cs C0 X.env) ad) kx tk)
    (pvl : ∀ (s0 : Shared) (H0 : Hp) (C0 : Addr) (cs : List (Str × Addr)) (ad : List Addr), PE (X.blk s0 H0 scope (compEnvC scope cs C0 X.env) ad) vx tv)
    (fold : ∀ x, foldedSetIterable iter X.env x = pure x := by intro _; rfl) :
    PS X (.Assign [.Name y py] (.DictComp kx vx [⟨tg, iter, ifs, 0⟩] scope pos) spos) (tAsg (tDct wi g tt tk tv (own.map (·.2))) (gName i)) := by
  refine ⟨fun pins s σ H E I rd => ?_⟩
  rw [exec_Assign_Name_used _ _ _ _ swp]
  have rd : tDct wi g tt tk tv (own.map (·.2)) σ H (fun x F => gName i x σ F E.nx) := rd
  refine wpAny_bind (wpAny_standAt (wpAny_bind ?_))
  show wpAny _ X.A (do let _ ← comprehension (.DictComp kx vx [⟨tg, iter, ifs, 0⟩] scope pos) scope X.env (firstIterPos [⟨tg, iter, ifs, 0⟩] pos) newDict false (eval iter X.env) (some (assign (.Name y py) X.env))) _ _ s
  refine wpAny_bind (thn (dct_block (Z := fun _ u => SP X pins E .next u) cal hu uniq I walk blk ptg pts pky pvl fold rd fun L C sf names F If qf ns fp => ?_) fun _ _ z => wpAny_pure (wpAny_pure z))
  show wpAny _ _ (assign (.Name y py) X.env (.ref L)) _ _ _
  obtain ⟨f0, f1, f2, f3, f4, f5⟩ := fp
  refine wpAny_assign_Name (store_ok2 (v := V.ref L) If uniq hy (.inl loc) rfl (fun sz Iz ⟨a, sb, wh⟩ => ?_) (.inr loc))
  have off : C ≠ a := wh.elim (fun z => by rw [z]; exact f1) (fun z e => f4 y a z e.symm)
  exact ⟨names, ns.sameBut sb off, fun hz sbz => ⟨_, F, Iz.turned (t' := sz.toks) (fun b o mb z => (sbz.2 b mb).trans z) f0 f1 f3 f4 f5, qf⟩⟩
theorem dct_list {K : PySem.W.Frag} {a : Addr} {xs : List V} {g : TG} {tt : TT} {tk tv : TE} {vs : List Nat} {σ : L2.St} {H1 : Hp} {D : Addr} {Qd : Hp → Prop} (Pv : Nat → Hp → Prop) (h0 : Pv 0 (upd H1 D (.dT []))) (keep : ∀ i H, i ≤ xs.length → Pv i H → SqL K H a xs)
    (turn : ∀ i x H, xs[i]? = some x → Pv i H → g x (wipe σ vs) H fun σ2 H2 => wipe σ2 vs = wipe σ vs ∧ tt σ2 H2 fun b H3 =>
      if b = true then tk σ2 H3 fun y H4 => tv σ2 H4 fun z H5 => ∃ kvs k c, y = V.ref c ∧ H5 c = some (.tup (k.map kV)) ∧ H5 D = some (.dT kvs) ∧ kvs.length < sizeLine ∧ Pv (i + 1) (upd H5 D (.dT (putK kvs k z))) else Pv (i + 1) H3) (last : ∀ H, Pv xs.length H → Qd H) :
    ∃ W : Nat → Nat → Hp → Prop, (∃ m, W 0 m (upd H1 D (.dT []))) ∧ ∀ i m H, W i m H →
      ((Itl K a).stop i H ∧ Qd H) ∨ ((Itl K a).go i H ∧ ∃ Nx : Hp → Prop, (∀ H', Nx H' → ∃ m', m' < m ∧ W (i + 1) m' H') ∧ ∀ x H', (Itl K a).yld i H x H' → g x (wipe σ vs) H' fun σ2 H2 => wipe σ2 vs = wipe σ vs ∧ tt σ2 H2 fun b H3 =>
        if b = true then tk σ2 H3 fun y H4 => tv σ2 H4 fun z H5 => ∃ kvs k c, y = V.ref c ∧ H5 c = some (.tup (k.map kV)) ∧ H5 D = some (.dT kvs) ∧ kvs.length < sizeLine ∧ Nx (upd H5 D (.dT (putK kvs k z))) else Nx H3) := by
  refine ⟨fun i m F => i + m = xs.length ∧ Pv i F, ⟨xs.length, Nat.zero_add _, h0⟩, fun i m F ⟨im, pv⟩ => ?_⟩
  have lst := keep i F (by omega) pv
  cases m with
  | zero =>
    obtain rfl : i = xs.length := by omega
    exact .inl ⟨⟨xs, lst, Nat.le_refl _⟩, last F pv⟩
  | succ m =>
    have lt : i < xs.length := by omega
    refine .inr ⟨⟨xs, xs[i], lst, List.getElem?_eq_getElem lt⟩, Pv (i + 1), fun F' pv' => ⟨m, Nat.lt_succ_self m, by omega, pv'⟩, fun x F' yl => ?_⟩
    obtain ⟨rfl, same⟩ := yl
    exact turn i x _ (same xs lst) pv
end

theorem cut_ints (rs : List Int) (lo : Int) (h0 : 0 ≤ lo) : ∃ rs' : List Int, cutV (rs.map V.int) (some lo) none = rs'.map V.int ∧ rs'.length = rs.length - lo.toNat := by
  refine ⟨(rs.drop lo.toNat), ?_, List.length_drop⟩
  unfold cutV
  rw [HT.sIx_none]
  have e : HT.sIx (rs.map V.int).length 0 (some lo) = min lo.toNat (rs.map V.int).length := by
    show (if lo < 0 then _ else _) = _
    rw [if_neg (by omega)]
  rw [e, List.length_map]
  have h2 : (rs.map V.int).drop (min lo.toNat rs.length) = (rs.drop lo.toNat).map V.int := by
    rw [List.map_drop]
    rcases Nat.le_total lo.toNat rs.length with h | h
    · rw [Nat.min_eq_left h]
    · rw [Nat.min_eq_right h, List.drop_of_length_le (by rw [List.length_map]; exact Nat.le_refl _), List.drop_of_length_le (by rw [List.length_map]; exact h)]
  rw [h2, List.take_of_length_le]
  rw [List.length_map, List.length_drop]
  omega
theorem int_at {rs : List Int} {k : Nat} (h : k < rs.length) : ∃ v : Int, v ∈ rs ∧ atI (rs.map V.int) (k : Int) = some (.int v) := by
  refine ⟨rs[k], List.getElem_mem h, atI_nat ?_⟩
  rw [List.getElem?_map, List.getElem?_eq_getElem h]
  rfl

theorem cut_take (xs : List V) (k : Nat) : cutV xs none (some (k : Int)) = xs.take k := by
  unfold cutV
  rw [HT.sIx_none, HT.sIx_nat, List.drop_zero, Nat.sub_zero, Nat.min_def]
  split
  · rfl
  · rw [List.take_length, List.take_of_length_le (by omega)]
theorem cut_drop (xs : List V) (k : Nat) : cutV xs (some (k : Int)) none = xs.drop k := by
  unfold cutV
  rw [HT.sIx_none, HT.sIx_nat]
  have e : xs.drop (min k xs.length) = xs.drop k := by
    rw [Nat.min_def]
    split
    · rfl
    · rw [List.drop_length, List.drop_of_length_le (by omega)]
  rw [e, List.take_of_length_le]
  rw [List.length_drop]
  omega
theorem yes_read {A B : Hp → Prop} {σ : L2.St} {H : Hp} (h : A H) : tYes σ H (fun b H3 => if b = true then A H3 else B H3) := by
  show if true = true then A H else B H
  rw [if_pos rfl]
  exact h
theorem small200 {n : Nat} (h : n ≤ 200) : n ≤ sizeLine := Nat.le_trans h (by decide)
theorem small200' {n : Nat} (h : n < 200) : n < sizeLine := Nat.lt_of_lt_of_le h (by decide)
theorem take_more {α : Type} {l : List α} {i : Nat} {x : α} (h : l[i]? = some x) : l.take (i + 1) = l.take i ++ [x] := by
  rw [List.take_add_one, h]; rfl
theorem rng_more (n : Int) (i : Nat) (h : i < n.toNat) : (rng n).take (i + 1) = (rng n).take i ++ [(i : Int)] := by
  refine take_more ?_
  unfold rng
  rw [List.getElem?_map, List.getElem?_range h]
  rfl

theorem and_t {A B : Prop} [Decidable A] [Decidable B] (h : decide A = true) : decide (A ∧ B) = decide B := by
  have := of_decide_eq_true h
  rw [decide_eq_decide]
  exact ⟨fun h => h.2, fun h => ⟨this, h⟩⟩
theorem and_f {A B : Prop} [Decidable A] [Decidable B] (h : ¬ decide A = true) : decide (A ∧ B) = false := decide_eq_false fun q => nd h q.1
theorem pmin (a b : Int) : (if b < a then b else a) = min a b := by
  by_cases h : b < a
  · rw [if_pos h, Int.min_eq_right (by omega)]
  · rw [if_neg h, Int.min_eq_left (by omega)]
theorem pmax (a b : Int) : (if b > a then b else a) = max a b := by
  by_cases h : b > a
  · rw [if_pos h, Int.max_eq_right (by omega)]
  · rw [if_neg h, Int.max_eq_left (by omega)]

def sp_pair : Sp := fun vs H Q _ => ∃ a b : Int, vs = [.int a, .int b] ∧ ∀ t, H t = none → Q (.ref t) (upd H t (.tup [.int (pr a b).1, .int (pr a b).2]))
theorem ok__law_pair (T : Env K mg) : FnOk P w K mg base CX0 1 T.a__law_pair T.fd__law_pair ["_law_a", "_law_b"] sp_pair := by
  refine T.F__law_pair.ok sc__law_pair (fun vs H Q E h => ?_) (fun cdv A outer s H vs Q E hr h => ?_)
  · obtain ⟨a, b, rfl, _⟩ := h
    rfl
  · obtain ⟨a, b, rfl, q⟩ := h
    refine ⟨_, (pss_one (ps_ret (pe_tup (pa_cons (pe_callB (call_min2 rfl) (by rfl) T.m_min (by decide +kernel) (pa_cons (pv 0) (pa_cons (pv 1) pa_nil))) (pa_cons (pe_callB (call_max2 rfl) (by rfl) T.m_max (by decide +kernel) (pa_cons (pv 0) (pa_cons (pv 1) pa_nil))) pa_nil))))), ?_⟩
    refine ⟨_, rfl, _, rfl, _, _, rfl, _, rfl, _, rfl, _, _, rfl, small200 (by show 2 ≤ 200; decide), fun t ht => ?_⟩
    have := q t ht
    rw [pmin, pmax]
    exact this
def TrAt (H : Hp) (x : V) (e : Int × Int × Int) : Prop := ∃ t, x = V.ref t ∧ H t = some (.tup [.int e.1, .int e.2.1, .int e.2.2])
abbrev TrL (H : Hp) (xs : List V) (l : List (Int × Int × Int)) : Prop := All2 (TrAt H) xs l
theorem TrL.tups {H H' : Hp} {xs : List V} {l : List (Int × Int × Int)} (s : TupS H H') (h : TrL H xs l) : TrL H' xs l := All2.mono h fun _ _ ⟨t, e, ht⟩ => ⟨t, e, s _ _ ht⟩
abbrev earR (e : Int × Int × Int) : Int × Int := pr e.2.1 e.2.2
def sp_ears (K : PySem.W.Frag) : Sp := fun vs H Q _ => ∃ (n : Int) (r : Addr) (rs : List Int), vs = [.int n, .ref r] ∧ 3 ≤ n ∧ n ≤ 12 ∧ SqL K H r (rs.map V.int) ∧ n ≤ rs.length + 3 ∧ rowOk rs ∧
  ∀ H' p xs es, Same H H' → H p = none → H' p = some (.lst xs) → TrL H' xs es → (es.length : Int) = n - 3 → IsCut n (es.map earR) → Q (.ref p) H'
theorem rng_perm_step {n : Int} {E : List (Int × Int)} {L : List Int} {r : Int × Int} {L' : List Int} (h : ∀ R, CutL L R → CutL (rng n) (E ++ R)) (s : ∀ R, CutL L' R → CutL L (r :: R)) : ∀ R, CutL L' R → CutL (rng n) ((E ++ [r]) ++ R) := fun R hR => by
  rw [List.append_assoc]
  exact h _ (s R hR)
def earW (n : Int) (r p : Addr) (H : Hp) : Nat → L2.St → Hp → Prop := fun m σ H' => ∃ (l : Addr) (k : Option V) (xs : List V) (es : List (Int × Int × Int)) (L : List Int), σ = [some (.int n), some (.ref r), k, some (.ref l), some (.ref p)] ∧ Same H H' ∧ H' p = some (.lst xs) ∧ l ≠ p ∧ TrL H' xs es ∧ H' l = some (.lst (L.map V.int)) ∧ L.length = m ∧ 3 ≤ m ∧ ((es.length + m : Nat) : Int) = n ∧ L.Pairwise (· < ·) ∧ ∀ R, CutL L R → CutL (rng n) (es.map earR ++ R)
theorem int_atN {rs : List Int} {k : Nat} (h : k < rs.length) : ∃ v : Int, rs[k]? = some v ∧ atI (rs.map V.int) (k : Int) = some (.int v) := by
  refine ⟨rs[k], List.getElem?_eq_getElem h, atI_nat ?_⟩
  rw [List.getElem?_map, List.getElem?_eq_getElem h]
  rfl
theorem ear_prev {L : List Int} {k : Nat} (hk : k < L.length) : ∃ p : Int, (if k = 0 then L.getLast? else L[k - 1]?) = some p ∧ atI (L.map V.int) ((k : Int) - 1) = some (.int p) := by
  by_cases h : k = 0
  · subst h
    have hne : L ≠ [] := fun e => by rw [e] at hk; cases hk
    refine ⟨L.getLast hne, by rw [if_pos rfl, List.getLast?_eq_some_getLast hne], ?_⟩
    have e : L.map V.int = L.dropLast.map V.int ++ [V.int (L.getLast hne)] := by
      rw [← List.map_singleton, ← List.map_append, List.dropLast_concat_getLast hne]
    rw [e]
    exact atI_last _ _
  · obtain ⟨v, e1, e2⟩ := int_atN (rs := L) (k := k - 1) (by omega)
    refine ⟨v, by rw [if_neg h]; exact e1, ?_⟩
    rw [show (k : Int) - 1 = ((k - 1 : Nat) : Int) by omega]
    exact e2
theorem ok__law_ears (T : Env K mg) : FnOk P w K mg base CX0 1 T.a__law_ears T.fd__law_ears ["_law_n", "_law_row"] (sp_ears K) := by
  refine T.F__law_ears.ok sc__law_ears (fun vs H Q E h => ?_) (fun cdv A outer s H vs Q E hr h => ?_)
  · obtain ⟨n, r, rs, rfl, _⟩ := h
    rfl
  · obtain ⟨n, r, rs, rfl, h3, h12, hS, hl, hro, q⟩ := h
    refine ⟨_, (pss_cons (ps_setLc (i := 3) (own := [("_law_k", 2)]) (by rfl) sc__law_ears.nd rfl rfl (sw_true rfl rfl rfl (by decide +kernel)) (pi_range1 (by rfl) T.m_range (pa_cons (pv 0) pa_nil)) (blkOk_by (own := [("_law_k", 2)]) (N := ["_law_n", "_law_row", "_law_k", "_law_left", "_law_ears_here"]) (sc := defScope s__law_ears) (by decide +kernel)) (fun _ _ _ _ _ => (pg_name (i := 2) sc__law_ears.nd rfl (.inl rfl))) (fun _ _ _ _ _ => pts_nil) (fun _ _ _ _ _ => (pv 2)))
 (pss_cons (ps_set (i := 4) sc__law_ears.nd rfl (.inl rfl) (pe_lst pa_nil))
 (pss_cons (ps_while PassesOwn.never (pt_cmpR op_gt (pe_callB call_len_seq (by rfl) T.m_len (by decide +kernel) (pa_cons (pv 3) pa_nil)) pe_int (nomark _))
 (C8.pss_cut (ps_set (i := 2) sc__law_ears.nd rfl (.inl rfl) (pe_op op_mod (pe_ix ix_list (pv 1) (pe_callB call_len_seq (by rfl) T.m_len (by decide +kernel) (pa_cons (pv 4) pa_nil)) (fun _ _ => rfl)) (pe_callB call_len_seq (by rfl) T.m_len (by decide +kernel) (pa_cons (pv 3) pa_nil))))
 (pss_cons (ps_expr (pe_bm PySem.F.plainAttrs_list PySem.F.slot_list_append PySem.F.type_list_append mt_append (pv 4) (pa_cons (pe_tup (pa_cons (pe_ix ix_list (pv 3) (pv 2) (fun _ _ => rfl)) (pa_cons (pe_ix ix_list (pv 3) (pe_op op_sub (pv 2) pe_int) (fun _ _ => rfl)) (pa_cons (pe_ix ix_list (pv 3) (pe_op op_mod (pe_op op_add (pv 2) pe_int) (pe_callB call_len_seq (by rfl) T.m_len (by decide +kernel) (pa_cons (pv 3) pa_nil))) (fun _ _ => rfl)) pa_nil)))) pa_nil)))
 (pss_one (ps_set (i := 3) sc__law_ears.nd rfl (.inl rfl) (pe_op op_cat (pe_slice sl_list (pv 3) po_none (po_some (pv 2))) (pe_slice sl_list (pv 3) (po_some (pe_op op_add (pv 2) pe_int)) po_none)))))))
 (pss_one (ps_ret (pv 4)))))), ?_⟩
    refine ⟨_, rfl, n, rfl, by omega, by omega, fun D hD => ?_⟩
    refine lc_range (lo := 0) (n := n.toNat) (fun j H2 => Same H H2 ∧ H2 D = some (.lst (((rng n).take j).map V.int))) ⟨same_new hD, upd_same⟩ ?_ ?_
    · rintro j H2 hj ⟨s2, hd2⟩
      refine ⟨rfl, yes_read ?_⟩
      refine ⟨_, rfl, _, hd2, small200' ?_, same_put s2 hD, ?_⟩
      · rw [List.length_map, List.length_take]; omega
      · rw [upd_same, rng_more n j hj, List.map_append, Int.zero_add]; rfl
    rintro H2 ⟨s2, hd2⟩
    rw [List.take_of_length_le (by rw [rng_len]; exact Nat.le_refl _)] at hd2
    refine ⟨Nat.zero_le _, fun p hp => ?_⟩
    have s3 : Same H2 _ := same_new (o := .lst []) hp
    have hDp : D ≠ p := ne_of_none hd2 hp
    have hpH : H p = none := by
      cases e : H p with
      | none => rfl
      | some o => rw [s2 _ _ e] at hp; cases hp
    refine ⟨earW n r p H, ⟨n.toNat, D, _, [], [], rng n, rfl, s2.trans s3, upd_same, hDp, .nil, s3 _ _ hd2, rng_len n, by omega, by simp; omega, rng_sorted n, fun R hR => hR⟩, ?_⟩
    rintro m σ H' ⟨l, k, xs, es, L, rfl, s4, hpx, hlp, hE, hL, rfl, hm3, hcnt, hLs, hcut⟩
    have hLl : (L.map V.int).length = L.length := List.length_map _
    have hSL : SqL K H' l (L.map V.int) := .inl (.inl hL)
    refine ⟨_, rfl, _, _, rfl, .inl hSL, _, _, rfl, rfl, _, rfl, ite2 (fun hd => ?_) (fun hd => ?_)⟩
    · have h4 : 4 ≤ L.length := by
        have := of_decide_eq_true hd
        rw [hLl] at this
        omega
      refine ⟨fun σ' H2 => ∃ m', m' < L.length ∧ earW n r p H m' σ' H2, fun _ _ h => h, ?_⟩
      have hxl := hE.length
      have hSR : SqL K H' r (rs.map V.int) := s4.seq hS
      obtain ⟨v0, mv0, av0⟩ := int_at (rs := rs) (k := es.length) (by omega)
      have b0 := hro v0 mv0
      refine ⟨fun σ' H2 => H2 = H' ∧ ∃ j : Nat, j < L.length ∧ σ' = [some (.int n), some (.ref r), some (.int (j : Int)), some (.ref l), some (.ref p)], ?_, ?_⟩
      · refine ⟨_, rfl, _, rfl, _, _, rfl, .inl (.inl (.inl hpx)), r, _, _, V.int v0, rfl, rfl, hSR, (by rw [hxl]; exact av0), _, rfl, _, _, rfl, .inl hSL, _, _, rfl, rfl, (by show (0 : Int) < _; omega), ?_⟩
        rw [hLl]
        refine ⟨rfl, (v0 % (L.length : Int)).toNat, ?_, ?_⟩
        · have k0 := Int.emod_nonneg v0 (show (L.length : Int) ≠ 0 by omega)
          have k1 := Int.emod_lt_of_pos v0 (show (0 : Int) < (L.length : Int) by omega)
          omega
        · rw [Int.toNat_of_nonneg (Int.emod_nonneg v0 (show (L.length : Int) ≠ 0 by omega))]; rfl
      rintro _ H' ⟨rfl, j, hjL, rfl⟩
      obtain ⟨v, ev, av⟩ := int_atN hjL
      obtain ⟨pv', ep, ap⟩ := ear_prev hjL
      obtain ⟨q', eq, aq⟩ := int_atN (rs := L) (k := (j + 1) % L.length) (Nat.mod_lt _ (by omega))
      have aq' : atI (L.map V.int) (((j : Int) + 1) % (L.length : Int)) = some (.int q') := by
        have e1 : ((j + 1 : Nat) : Int) = (j : Int) + 1 := by omega
        rw [← e1, ← Int.natCast_emod]
        exact aq
      have stp := fun R hR => ear_step (R := R) hLs h4 ev ep eq hR
      refine ⟨_, rfl, .inl ⟨rfl, _, .inl (.inl hpx)⟩, ?_⟩
      refine ⟨_, rfl, _, rfl, l, _, _, _, rfl, rfl, hSL, av, ?_⟩
      refine ⟨_, rfl, _, rfl, _, _, rfl, rfl, l, _, _, _, rfl, rfl, hSL, ap, ?_⟩
      refine ⟨_, rfl, _, rfl, _, _, rfl, rfl, _, rfl, _, _, rfl, .inl hSL, _, _, rfl, rfl, (by show (0 : Int) < _; rw [hLl]; omega), l, _, _, _, rfl, rfl, hSL, (by rw [hLl]; exact aq'), ?_⟩
      refine ⟨small200 (by show 3 ≤ 200; decide), fun t ht => ?_⟩
      have s5 : Same H' _ := same_new (o := .tup [.int v, .int pv', .int q']) ht
      have et : (upd H' t (.tup [.int v, .int pv', .int q'])) t = some (.tup [.int v, .int pv', .int q']) := upd_same
      generalize upd H' t (.tup [.int v, .int pv', .int q']) = H5 at *
      refine ⟨p, xs, _, rfl, rfl, s5 _ _ hpx, small200' (by omega), ?_⟩
      have hE5 : TrL (upd H5 p (.lst (xs ++ [.ref t]))) (xs ++ [.ref t]) (es ++ [(v, pv', q')]) := by
        have ts := TupS.put (o := .lst (xs ++ [.ref t])) (s5 _ _ hpx)
        exact (hE.tups ((TupS.of s5).trans ts)).app (.one ⟨t, rfl, ts _ _ et⟩)
      have hL5 : (upd H5 p (.lst (xs ++ [.ref t]))) l = some (.lst (L.map V.int)) := by
        rw [upd_ne hlp]; exact s5 _ _ hL
      have s6 : Same H (upd H5 p (.lst (xs ++ [.ref t]))) := fun b o e => by
        rw [upd_ne (ne_of_none e hpH)]
        exact s5 _ _ (s4 _ _ e)
      have hp6 : (upd H5 p (.lst (xs ++ [.ref t]))) p = some (.lst (xs ++ [.ref t])) := upd_same
      generalize upd H5 p (.lst (xs ++ [.ref t])) = H6 at *
      refine ⟨_, rfl, _, rfl, _, rfl, l, _, rfl, .inl (.inl hL5), fun c1 g1 => ?_⟩
      have u1 : Same H6 _ := same_new (o := .lst (cutV (L.map V.int) none (some (j : Int)))) g1
      have e1 : (upd H6 c1 (.lst (cutV (L.map V.int) none (some (j : Int))))) c1 = some (.lst ((L.map V.int).take j)) := by rw [upd_same, cut_take]
      generalize upd H6 c1 (.lst (cutV (L.map V.int) none (some (j : Int)))) = H7 at *
      refine ⟨_, rfl, _, rfl, _, _, rfl, rfl, _, rfl, l, _, rfl, .inl (.inl (u1 _ _ hL5)), fun c2 g2 => ?_⟩
      have u2 : Same H7 _ := same_new (o := .lst (cutV (L.map V.int) (some ((j : Int) + 1)) none)) g2
      have e2 : (upd H7 c2 (.lst (cutV (L.map V.int) (some ((j : Int) + 1)) none))) c2 = some (.lst ((L.map V.int).drop (j + 1))) := by
        rw [upd_same, show (j : Int) + 1 = ((j + 1 : Nat) : Int) by omega, cut_drop]
      generalize upd H7 c2 (.lst (cutV (L.map V.int) (some ((j : Int) + 1)) none)) = H8 at *
      have hlen : ((L.take j ++ L.drop (j + 1))).length = L.length - 1 := by
        rw [List.length_append, List.length_take, List.length_drop]; omega
      refine ⟨c1, c2, _, _, rfl, rfl, u2 _ _ e1, e2, small200 ?_, fun c3 g3 => ?_⟩
      · rw [← List.map_take, ← List.map_drop, ← List.length_append, ← List.map_append, List.length_map, hlen]
        omega
      have u3 : Same H8 _ := same_new (o := .lst ((L.map V.int).take j ++ (L.map V.int).drop (j + 1))) g3
      refine ⟨L.length - 1, by omega, c3, _, _, _, L.take j ++ L.drop (j + 1), rfl, ((s6.trans u1).trans u2).trans u3, u3 _ _ (u2 _ _ (u1 _ _ hp6)), (ne_of_none (u2 _ _ (u1 _ _ hp6)) g3).symm, hE5.tups (TupS.of ((u1.trans u2).trans u3)), ?_, hlen, by omega, ?_, ?_, ?_⟩
      · rw [upd_same, List.map_append, List.map_take, List.map_drop]
      · rw [List.length_append, List.length_singleton]; omega
      · exact hLs.sublist (by
          have h := List.Sublist.append (List.Sublist.refl (L.take j)) (List.drop_sublist_drop_left L (show j ≤ j + 1 by omega))
          rw [List.take_append_drop] at h
          exact h)
      · rw [List.map_append]
        exact rng_perm_step hcut stp
    · have hL3 : L.length = 3 := by
        have := nd hd
        rw [hLl] at this
        omega
      obtain ⟨a, b, c, rfl⟩ : ∃ a b c, L = [a, b, c] := by
        match L, hL3 with
        | [a, b, c], _ => exact ⟨a, b, c, rfl⟩
      have c1 := (List.pairwise_cons.mp hLs).1 b (by simp)
      have c2 := (List.pairwise_cons.mp (List.pairwise_cons.mp hLs).2).1 c (by simp)
      have c3 := hcut [] (cut3 c1 c2)
      rw [List.append_nil] at c3
      exact ⟨_, rfl, q H' p xs es s4 hpH hpx hE (by omega) (isCut_of h3 c3)⟩

/-! ### the ropes of a drawn cutting, sides, ties -/
theorem sp_new {H H' : Hp} {q : Addr} {o : HO} {H2 : Hp} (s : Same H H2) (h : H2 q = none) : Same H (upd H2 q o) := s.trans (same_new h)
theorem none_back {H H' : Hp} {q : Addr} (s : Same H H') (h : H' q = none) : H q = none := by
  cases e : H q with
  | none => rfl
  | some o => rw [s _ _ e] at h; cases h
def sp_ropes (K : PySem.W.Frag) : Sp := fun vs H Q _ => ∃ (p : Addr) (xs : List V) (es : List (Int × Int × Int)), vs = [.ref p] ∧ H p = some (.lst xs) ∧ TrL H xs es ∧ es.length ≤ 100 ∧
  ∀ H' q ys, Same H H' → H q = none → H' q = some (.lst ys) → PrL K H' ys (sort2 (es.map earR)) → Q (.ref q) H'
theorem ok__law_ropes (T : Env K mg) : FnOk P w K mg base CX0 2 T.a__law_ropes T.fd__law_ropes ["_law_ears_here"] (sp_ropes K) := by
  refine T.F__law_ropes.ok sc__law_ropes (fun vs H Q E h => ?_) (fun cdv A outer s H vs Q E hr h => ?_)
  · obtain ⟨p, xs, es, rfl, _⟩ := h
    rfl
  · obtain ⟨p, xs, es, rfl, hp, hE, hl, q⟩ := h
    refine ⟨_, (pss_one (ps_ret (pe_callB cr_sort2 (by rfl) T.m_sorted (by decide +kernel) (pa_cons (pe_lc (own := [("_law_ear", 1)]) (by rfl) sc__law_ropes.nd (pi_list (pv 0)) (blkOk_by (own := [("_law_ear", 1)]) (N := ["_law_ears_here", "_law_ear"]) (sc := defScope s__law_ropes) (by decide +kernel)) (fun _ _ _ _ _ => (pg_name (i := 1) sc__law_ropes.nd rfl (.inl rfl))) (fun _ _ _ _ _ => pts_nil) (fun _ _ _ _ _ => (pe_call (ok__law_pair T) (hr.mono (by decide)) (by rfl) T.g__law_pair T.F__law_pair.kp T.b__law_pair .nil pass0 (pa_cons (pe_ix (r := rIxT K) ix_tup (pv 1) pe_int (fun _ _ => rfl)) (pa_cons (pe_ix (r := rIxT K) ix_tup (pv 1) pe_int (fun _ _ => rfl)) pa_nil))))) pa_nil)))), ?_⟩
    have hxl := hE.length
    refine ⟨_, rfl, p, rfl, ⟨_, .inl (.inl hp)⟩, fun D hD => ?_⟩
    refine lc_list (K := K) (a := p) (xs := xs) (fun i H' => ∃ zs, Same H H' ∧ H' D = some (.lst zs) ∧ PrL K H' zs ((es.map earR).take i)) ⟨[], same_new hD, upd_same, by rw [List.take_zero]; exact .nil⟩ ?_ ?_ ?_
    · rintro i H' _ ⟨zs, s2, _, _⟩
      exact .inl (.inl (s2 _ _ hp))
    · rintro i x H' hi ⟨zs, s2, hz, hZ⟩
      obtain ⟨e, he, t, rfl, ht⟩ := hE.at hi
      have hT : SqT K H' t [.int e.1, .int e.2.1, .int e.2.2] := .inl (.inl (s2 _ _ ht))
      refine ⟨rfl, yes_read ?_⟩
      refine ⟨_, rfl, t, _, _, _, rfl, rfl, hT, atI_nat (j := 1) rfl, _, rfl, t, _, _, _, rfl, rfl, hT, atI_nat (j := 2) rfl, e.2.1, e.2.2, rfl, fun u hu => ?_⟩
      have s3 : Same H' _ := same_new (o := .tup [.int (pr e.2.1 e.2.2).1, .int (pr e.2.1 e.2.2).2]) hu
      have hu2 : (upd H' u (.tup [.int (pr e.2.1 e.2.2).1, .int (pr e.2.1 e.2.2).2])) u = some (.tup [.int (pr e.2.1 e.2.2).1, .int (pr e.2.1 e.2.2).2]) := upd_same
      generalize upd H' u (.tup [.int (pr e.2.1 e.2.2).1, .int (pr e.2.1 e.2.2).2]) = H3 at *
      have hzl := hZ.length
      rw [List.length_take, List.length_map] at hzl
      refine ⟨zs, s3 _ _ hz, small200' (by omega), zs ++ [.ref u], ?_, upd_same, ?_⟩
      · intro b o eb
        rw [upd_ne (ne_of_none eb hD)]
        exact s3 _ _ (s2 _ _ eb)
      · have em : (es.map earR)[i]? = some (earR e) := by rw [List.getElem?_map, he]; rfl
        rw [take_more em]
        have ts := TupS.put (o := .lst (zs ++ [.ref u])) (s3 _ _ hz)
        exact (hZ.tups ((TupS.of s3).trans ts)).app (.one ⟨u, rfl, ts _ _ hu2⟩)
    · rintro H' ⟨zs, s2, hz, hZ⟩
      rw [List.take_of_length_le (by rw [List.length_map]; omega)] at hZ
      refine ⟨D, zs, _, rfl, .inl (.inl hz), hZ, fun ys u hY hu => ?_⟩
      have s3 : Same H' _ := same_new (o := .lst ys) hu
      exact q _ u ys (s2.trans s3) (none_back s2 hu) upd_same (hY.mono s3)
def sp_sides (K : PySem.W.Frag) : Sp := fun vs H Q _ => ∃ n : Int, vs = [.int n] ∧ 3 ≤ n ∧ n ≤ 12 ∧ ∀ H' q ys, Same H H' → H q = none → H' q = some (.lst ys) → PrL K H' ys (sidesL n) → Q (.ref q) H'
theorem ok__law_sides (T : Env K mg) : FnOk P w K mg base CX0 1 T.a__law_sides T.fd__law_sides ["_law_n"] (sp_sides K) := by
  refine T.F__law_sides.ok sc__law_sides (fun vs H Q E h => ?_) (fun cdv A outer s H vs Q E hr h => ?_)
  · obtain ⟨n, rfl, _⟩ := h
    rfl
  · obtain ⟨n, rfl, h3, h12, q⟩ := h
    refine ⟨_, (pss_one (ps_ret (pe_op op_cat (pe_lc (own := [("_law_k", 1)]) (by rfl) sc__law_sides.nd (pi_range1 (by rfl) T.m_range (pa_cons (pe_op op_sub (pv 0) pe_int) pa_nil)) (blkOk_by (own := [("_law_k", 1)]) (N := ["_law_n", "_law_k"]) (sc := defScope s__law_sides) (by decide +kernel)) (fun _ _ _ _ _ => (pg_name (i := 1) sc__law_sides.nd rfl (.inl rfl))) (fun _ _ _ _ _ => pts_nil) (fun _ _ _ _ _ => (pe_tup (pa_cons (pv 1) (pa_cons (pe_op op_add (pv 1) pe_int) pa_nil))))) (pe_lst (pa_cons (pe_tup (pa_cons pe_int (pa_cons (pe_op op_sub (pv 0) pe_int) pa_nil))) pa_nil))))), ?_⟩
    refine ⟨_, rfl, _, _, rfl, rfl, n - 1, rfl, by omega, by omega, fun D hD => ?_⟩
    refine lc_range (lo := 0) (n := (n - 1).toNat) (fun i H' => ∃ zs, Same H H' ∧ H' D = some (.lst zs) ∧ PrL K H' zs (((rng (n - 1)).map (fun k => (k, k + 1))).take i)) ⟨[], same_new hD, upd_same, by rw [List.take_zero]; exact .nil⟩ ?_ ?_
    · rintro i H' hi ⟨zs, s2, hz, hZ⟩
      refine ⟨rfl, yes_read ?_⟩
      refine ⟨_, rfl, _, rfl, _, _, rfl, rfl, small200 (by show 2 ≤ 200; decide), fun u hu => ?_⟩
      have s3 : Same H' _ := same_new (o := .tup [.int (0 + (i : Int)), .int (0 + (i : Int) + 1)]) hu
      have hu2 : (upd H' u (.tup [.int (0 + (i : Int)), .int (0 + (i : Int) + 1)])) u = some (.tup [.int (0 + (i : Int)), .int (0 + (i : Int) + 1)]) := upd_same
      generalize upd H' u (.tup [.int (0 + (i : Int)), .int (0 + (i : Int) + 1)]) = H3 at *
      have hzl := hZ.length
      rw [List.length_take, List.length_map, rng_len] at hzl
      refine ⟨zs, s3 _ _ hz, small200' (by omega), zs ++ [.ref u], ?_, upd_same, ?_⟩
      · intro b o eb
        rw [upd_ne (ne_of_none eb hD)]
        exact s3 _ _ (s2 _ _ eb)
      · have em : ((rng (n - 1)).map (fun k => (k, k + 1)))[i]? = some ((0 + (i : Int)), (0 + (i : Int) + 1)) := by
          unfold rng
          rw [List.getElem?_map, List.getElem?_map, List.getElem?_range hi, Int.zero_add]; rfl
        rw [take_more em]
        have ts := TupS.put (o := .lst (zs ++ [.ref u])) (s3 _ _ hz)
        exact (hZ.tups ((TupS.of s3).trans ts)).app (.one ⟨u, rfl, ts _ _ hu2⟩)
    · rintro H' ⟨zs, s2, hz, hZ⟩
      rw [List.take_of_length_le (by rw [List.length_map, rng_len]; exact Nat.le_refl _)] at hZ
      have hzl := hZ.length
      rw [List.length_map, rng_len] at hzl
      refine ⟨_, rfl, _, _, rfl, rfl, small200 (by show 2 ≤ 200; decide), fun u hu => ?_⟩
      have s3 : Same H' _ := same_new (o := .tup [.int 0, .int (n - 1)]) hu
      have hu2 : (upd H' u (.tup [.int 0, .int (n - 1)])) u = some (.tup [.int 0, .int (n - 1)]) := upd_same
      generalize upd H' u (.tup [.int 0, .int (n - 1)]) = H3 at *
      refine ⟨small200 (by show 1 ≤ 200; decide), fun v hv => ?_⟩
      have s4 : Same H3 _ := same_new (o := .lst [.ref u]) hv
      have hv2 : (upd H3 v (.lst [.ref u])) v = some (.lst [.ref u]) := upd_same
      generalize upd H3 v (.lst [.ref u]) = H4 at *
      refine ⟨D, v, zs, [.ref u], rfl, rfl, s4 _ _ (s3 _ _ hz), hv2, small200 (by show zs.length + 1 ≤ 200; omega), fun r hr2 => ?_⟩
      have s5 : Same H4 _ := same_new (o := .lst (zs ++ [.ref u])) hr2
      have s6 := (s3.trans s4).trans s5
      exact q _ r _ (s2.trans s6) (none_back ((s2.trans s3).trans s4) hr2) upd_same ((hZ.mono s6).app (.one ⟨u, rfl, s5 _ _ (s4 _ _ hu2)⟩))
theorem sidesL_len {n : Int} (h : 3 ≤ n) : (sidesL n).length = n.toNat := by
  unfold sidesL
  rw [List.length_append, List.length_map, rng_len, List.length_singleton]
  omega
def sp_ties (K : PySem.W.Frag) : Sp := fun vs H Q _ => ∃ (n : Int) (c : Addr) (xs : List V) (l : List (Int × Int)), vs = [.int n, .ref c] ∧ 3 ≤ n ∧ n ≤ 12 ∧ H c = some (.lst xs) ∧ PrL K H xs l ∧ l.length ≤ 100 ∧
  ∀ H' q ys, Same H H' → H q = none → H' q = some (.lst ys) → PrL K H' ys (sort2 (sidesL n ++ l)) → Q (.ref q) H'
theorem ok__law_ties (T : Env K mg) : FnOk P w K mg base CX0 2 T.a__law_ties T.fd__law_ties ["_law_n", "_law_cut"] (sp_ties K) := by
  refine T.F__law_ties.ok sc__law_ties (fun vs H Q E h => ?_) (fun cdv A outer s H vs Q E hr h => ?_)
  · obtain ⟨n, c, xs, l, rfl, _⟩ := h
    rfl
  · obtain ⟨n, c, xs, l, rfl, h3, h12, hc, hL, hl, q⟩ := h
    refine ⟨_, (pss_one (ps_ret (pe_callB cr_sort2 (by rfl) T.m_sorted (by decide +kernel) (pa_cons (pe_op op_cat (pe_call (ok__law_sides T) (hr.mono (by decide)) (by rfl) T.g__law_sides T.F__law_sides.kp T.b__law_sides .nil pass0 (pa_cons (pv 0) pa_nil)) (pv 1)) pa_nil)))), ?_⟩
    refine ⟨_, rfl, n, rfl, h3, h12, fun H1 d ys s1 hd hd1 hD => ?_⟩
    have hxl := hL.length
    have hyl := hD.length
    rw [sidesL_len h3] at hyl
    refine ⟨_, rfl, d, c, ys, xs, rfl, rfl, hd1, s1 _ _ hc, small200 (by omega), fun e he => ?_⟩
    have s2 : Same H1 _ := same_new (o := .lst (ys ++ xs)) he
    refine ⟨e, _, _, rfl, .inl (.inl upd_same), (hD.mono s2).app (hL.mono (s1.trans s2)), fun zs u hZ hu => ?_⟩
    have s3 := (s1.trans s2).trans (same_new (o := .lst zs) hu)
    exact q _ u zs s3 (none_back (s1.trans s2) hu) upd_same (hZ.mono (same_new hu))

theorem ok_sides (T : Env K mg) : FnOk P w K mg base CX0 1 T.a_sides T.fd_sides ["n"] (sp_sides K) := by
  refine T.F_sides.ok sc_sides (fun vs H Q E h => ?_) (fun cdv A outer s H vs Q E hr h => ?_)
  · obtain ⟨n, rfl, _⟩ := h
    rfl
  · obtain ⟨n, rfl, h3, h12, q⟩ := h
    refine ⟨_, (pss_one (ps_ret (pe_op op_cat (pe_lc (own := [("post", 1)]) (by rfl) sc_sides.nd (pi_range1 (by rfl) T.m_range (pa_cons (pe_op op_sub (pv 0) pe_int) pa_nil)) (blkOk_by (own := [("post", 1)]) (N := ["n", "post"]) (sc := defScope s_sides) (by decide +kernel)) (fun _ _ _ _ _ => (pg_name (i := 1) sc_sides.nd rfl (.inl rfl))) (fun _ _ _ _ _ => pts_nil) (fun _ _ _ _ _ => (pe_tup (pa_cons (pv 1) (pa_cons (pe_op op_add (pv 1) pe_int) pa_nil))))) (pe_lst (pa_cons (pe_tup (pa_cons pe_int (pa_cons (pe_op op_sub (pv 0) pe_int) pa_nil))) pa_nil))))), ?_⟩
    refine ⟨_, rfl, _, _, rfl, rfl, n - 1, rfl, by omega, by omega, fun D hD => ?_⟩
    refine lc_range (lo := 0) (n := (n - 1).toNat) (fun i H' => ∃ zs, Same H H' ∧ H' D = some (.lst zs) ∧ PrL K H' zs (((rng (n - 1)).map (fun k => (k, k + 1))).take i)) ⟨[], same_new hD, upd_same, by rw [List.take_zero]; exact .nil⟩ ?_ ?_
    · rintro i H' hi ⟨zs, s2, hz, hZ⟩
      refine ⟨rfl, yes_read ?_⟩
      refine ⟨_, rfl, _, rfl, _, _, rfl, rfl, small200 (by show 2 ≤ 200; decide), fun u hu => ?_⟩
      have s3 : Same H' _ := same_new (o := .tup [.int (0 + (i : Int)), .int (0 + (i : Int) + 1)]) hu
      have hu2 : (upd H' u (.tup [.int (0 + (i : Int)), .int (0 + (i : Int) + 1)])) u = some (.tup [.int (0 + (i : Int)), .int (0 + (i : Int) + 1)]) := upd_same
      generalize upd H' u (.tup [.int (0 + (i : Int)), .int (0 + (i : Int) + 1)]) = H3 at *
      have hzl := hZ.length
      rw [List.length_take, List.length_map, rng_len] at hzl
      refine ⟨zs, s3 _ _ hz, small200' (by omega), zs ++ [.ref u], ?_, upd_same, ?_⟩
      · intro b o eb
        rw [upd_ne (ne_of_none eb hD)]
        exact s3 _ _ (s2 _ _ eb)
      · have em : ((rng (n - 1)).map (fun k => (k, k + 1)))[i]? = some ((0 + (i : Int)), (0 + (i : Int) + 1)) := by
          unfold rng
          rw [List.getElem?_map, List.getElem?_map, List.getElem?_range hi, Int.zero_add]; rfl
        rw [take_more em]
        have ts := TupS.put (o := .lst (zs ++ [.ref u])) (s3 _ _ hz)
        exact (hZ.tups ((TupS.of s3).trans ts)).app (.one ⟨u, rfl, ts _ _ hu2⟩)
    · rintro H' ⟨zs, s2, hz, hZ⟩
      rw [List.take_of_length_le (by rw [List.length_map, rng_len]; exact Nat.le_refl _)] at hZ
      have hzl := hZ.length
      rw [List.length_map, rng_len] at hzl
      refine ⟨_, rfl, _, _, rfl, rfl, small200 (by show 2 ≤ 200; decide), fun u hu => ?_⟩
      have s3 : Same H' _ := same_new (o := .tup [.int 0, .int (n - 1)]) hu
      have hu2 : (upd H' u (.tup [.int 0, .int (n - 1)])) u = some (.tup [.int 0, .int (n - 1)]) := upd_same
      generalize upd H' u (.tup [.int 0, .int (n - 1)]) = H3 at *
      refine ⟨small200 (by show 1 ≤ 200; decide), fun v hv => ?_⟩
      have s4 : Same H3 _ := same_new (o := .lst [.ref u]) hv
      have hv2 : (upd H3 v (.lst [.ref u])) v = some (.lst [.ref u]) := upd_same
      generalize upd H3 v (.lst [.ref u]) = H4 at *
      refine ⟨D, v, zs, [.ref u], rfl, rfl, s4 _ _ (s3 _ _ hz), hv2, small200 (by show zs.length + 1 ≤ 200; omega), fun r hr2 => ?_⟩
      have s5 : Same H4 _ := same_new (o := .lst (zs ++ [.ref u])) hr2
      have s6 := (s3.trans s4).trans s5
      exact q _ r _ (s2.trans s6) (none_back ((s2.trans s3).trans s4) hr2) upd_same ((hZ.mono s6).app (.one ⟨u, rfl, s5 _ _ (s4 _ _ hu2)⟩))
theorem ok_ties (T : Env K mg) : FnOk P w K mg base CX0 2 T.a_ties T.fd_ties ["n", "cut"] (sp_ties K) := by
  refine T.F_ties.ok sc_ties (fun vs H Q E h => ?_) (fun cdv A outer s H vs Q E hr h => ?_)
  · obtain ⟨n, c, xs, l, rfl, _⟩ := h
    rfl
  · obtain ⟨n, c, xs, l, rfl, h3, h12, hc, hL, hl, q⟩ := h
    refine ⟨_, (pss_one (ps_ret (pe_callB cr_sort2 (by rfl) T.m_sorted (by decide +kernel) (pa_cons (pe_op op_cat (pe_call (ok_sides T) (hr.mono (by decide)) (by rfl) T.g_sides T.F_sides.kp T.b_sides .nil pass0 (pa_cons (pv 0) pa_nil)) (pv 1)) pa_nil)))), ?_⟩
    refine ⟨_, rfl, n, rfl, h3, h12, fun H1 d ys s1 hd hd1 hD => ?_⟩
    have hxl := hL.length
    have hyl := hD.length
    rw [sidesL_len h3] at hyl
    refine ⟨_, rfl, d, c, ys, xs, rfl, rfl, hd1, s1 _ _ hc, small200 (by omega), fun e he => ?_⟩
    have s2 : Same H1 _ := same_new (o := .lst (ys ++ xs)) he
    refine ⟨e, _, _, rfl, .inl (.inl upd_same), (hD.mono s2).app (hL.mono (s1.trans s2)), fun zs u hZ hu => ?_⟩
    have s3 := (s1.trans s2).trans (same_new (o := .lst zs) hu)
    exact q _ u zs s3 (none_back (s1.trans s2) hu) upd_same (hZ.mono (same_new hu))

/-! ### parts and their numbers -/
theorem sw_trueD {kx vx : Expr} {gs : List Comprehension} {scope : Scope} {pos py : Pos} {y : Str} {l : Nat} {env : PySem.Env} (hk : env.scope.kind = .function) (hy : env.scope.names.lookup y = some .local) (hl : (py.line == pos.line) = true)
    (ha : (scope.names.any fun (n, k) => n == y && (k == .local || k == .cell)) = false) : swapsWith (.DictComp kx vx gs scope pos) (some (.Name y py)) l env = pure true := by
  have b1 : env.blockKind = .function := by unfold Env.blockKind; rw [hk]; rfl
  have b2 : env.kindOf y = some .local := hy
  unfold swapsWith
  simp only [b1, b2, ha, Expr.pos, hl]
  rfl
def sp_pcount : Sp := fun vs H Q _ => ∃ lo hi : Int, vs = [.int lo, .int hi] ∧ lo < hi ∧ hi - lo ≤ 11 ∧ -1000 ≤ lo ∧ hi ≤ 1000 ∧ Q (.int (hmI (hi - lo - 1).toNat)) H
theorem ok_part_count (T : Env K mg) : FnOk P w K mg base CX0 2 T.a_part_count T.fd_part_count ["low", "high"] sp_pcount := by
  refine T.F_part_count.ok sc_part_count (fun vs H Q E h => ?_) (fun cdv A outer s H vs Q E hr h => ?_)
  · obtain ⟨lo, hi, rfl, _⟩ := h
    rfl
  · obtain ⟨lo, hi, rfl, h1, h2, h3, h4, q⟩ := h
    refine ⟨_, (pss_one (ps_ret (pe_call (ok_how_many T) (hr.mono (by decide)) (by rfl) T.g_how_many T.F_how_many.kp T.b_how_many .nil pass0 (pa_cons (pe_op op_add (pe_op op_sub (pv 1) (pv 0)) pe_int) pa_nil)))), ?_⟩
    refine ⟨_, rfl, _, rfl, _, _, rfl, rfl, _, _, rfl, rfl, hi - lo + 1, rfl, by omega, by omega, ?_⟩
    rw [show (hi - lo + 1 - 2).toNat = (hi - lo - 1).toNat by omega]
    exact q
def sp_wmid : Sp := fun vs H Q _ => ∃ lo m hi : Int, vs = [.int lo, .int m, .int hi] ∧ lo < m ∧ m < hi ∧ hi - lo ≤ 11 ∧ -1000 ≤ lo ∧ hi ≤ 1000 ∧ Q (.int (hmI (m - lo - 1).toNat * hmI (hi - m - 1).toNat)) H
theorem ok_with_middle (T : Env K mg) : FnOk P w K mg base CX0 3 T.a_with_middle T.fd_with_middle ["low", "middle", "high"] sp_wmid := by
  refine T.F_with_middle.ok sc_with_middle (fun vs H Q E h => ?_) (fun cdv A outer s H vs Q E hr h => ?_)
  · obtain ⟨lo, m, hi, rfl, _⟩ := h
    rfl
  · obtain ⟨lo, m, hi, rfl, h1, h2, h3, h4, h5, q⟩ := h
    refine ⟨_, (pss_one (ps_ret (pe_op op_mulU (pe_call (ok_part_count T) (hr.mono (by decide)) (by rfl) T.g_part_count T.F_part_count.kp T.b_part_count .nil pass0 (pa_cons (pv 0) (pa_cons (pv 1) pa_nil))) (pe_call (ok_part_count T) (hr.mono (by decide)) (by rfl) T.g_part_count T.F_part_count.kp T.b_part_count .nil pass0 (pa_cons (pv 1) (pa_cons (pv 2) pa_nil)))))), ?_⟩
    have p1 := hm_pos (m - lo - 1).toNat (by omega)
    exact ⟨_, rfl, _, rfl, lo, m, rfl, h1, by omega, h4, by omega, _, rfl, _, rfl, m, hi, rfl, h2, by omega, by omega, h5, _, _, rfl, rfl, mulL (by omega) (by omega), q⟩
theorem full_n {n : Int} : Full (inR n) 0 (n - 1) := fun z h1 h2 => ⟨h1, by omega⟩
theorem tree_ropes {n : Int} {T : Tr} (h3 : 3 ≤ n) (hT : TOk (inR n) 0 (n - 1) T) : ∀ a b, (a, b) ∈ (nodesL 0 (n - 1) T).drop 1 ↔ tie 0 (n - 1) T a b ∧ a + 2 ≤ b ∧ ¬ (a = 0 ∧ b = n - 1) := by
  intro a b
  have hm := nodes_mem hT full_n a b
  have hn := nodes_nodup hT full_n
  match T, hT with
  | .lf, hT => have := lf_one full_n hT; omega
  | .nd m l r, hT =>
    have hn : ((0, n - 1) :: (nodesL 0 m l ++ nodesL m (n - 1) r)).Nodup := hn
    have hm : (a, b) ∈ (0, n - 1) :: (nodesL 0 m l ++ nodesL m (n - 1) r) ↔ _ := hm
    show (a, b) ∈ (nodesL 0 m l ++ nodesL m (n - 1) r) ↔ _
    rw [List.mem_cons] at hm
    rw [List.nodup_cons] at hn
    constructor
    · intro h
      have := hm.mp (.inr h)
      refine ⟨this.1, this.2, fun e => hn.1 ?_⟩
      rw [e.1, e.2] at h
      exact h
    · rintro ⟨h1, h2, h4⟩
      exact (hm.mpr ⟨h1, h2⟩).resolve_left fun e => h4 (Prod.mk.inj e)
def treeCut (n : Int) (T : Tr) : List (Int × Int) := sort2 ((nodesL 0 (n - 1) T).drop 1)
theorem tree_cut {n : Int} {T : Tr} (h3 : 3 ≤ n) (hT : TOk (inR n) 0 (n - 1) T) : IsCut n (treeCut n T) :=
  ⟨h3, sort2_nodup ((nodes_nodup hT full_n).sublist (List.drop_sublist 1 _)), T, hT, fun a b => sort2_mem.trans (tree_ropes h3 hT a b)⟩
theorem tree_len {n : Int} {T : Tr} (h3 : 3 ≤ n) (hT : TOk (inR n) 0 (n - 1) T) : ((treeCut n T).length : Int) = n - 3 := by
  unfold treeCut
  rw [sort2_len, List.length_drop]
  have := nodes_len hT full_n
  omega
/-! ### numbers of cuttings -/
def key2 (a b : Int) : List L2.Key := [.inl a, .inl b]
theorem key2_inj {a b c d : Int} (h : key2 a b = key2 c d) : a = c ∧ b = d := by
  unfold key2 at h
  injection h with h1 h2
  injection h2 with h2 _
  exact ⟨Sum.inl.inj h1, Sum.inl.inj h2⟩
def Tied (kvs : List (List L2.Key × V)) (l : List (Int × Int)) : Prop := ∀ a b, (valV kvs (key2 a b)).isSome = decide ((a, b) ∈ l)
theorem Tied.nil : Tied [] [] := fun a b => by rw [decide_eq_false (by simp)]; rfl
theorem Tied.more {kvs : List (List L2.Key × V)} {l : List (Int × Int)} {p : Int × Int} {v : V} (h : Tied kvs l) : Tied (putK kvs (key2 p.1 p.2) v) (l ++ [p]) := fun a b => by
  rw [valV_put]
  by_cases e : key2 a b = key2 p.1 p.2
  · rw [if_pos e]
    obtain ⟨e1, e2⟩ := key2_inj e
    rw [decide_eq_true (List.mem_append.mpr (.inr (by rw [e1, e2]; exact List.mem_singleton_self _)))]
    rfl
  · rw [if_neg e, h a b, decide_eq_decide, List.mem_append, List.mem_singleton]
    constructor
    · exact .inl
    · rintro (h | h)
      · exact h
      · exact absurd (by rw [← h]) e
def sp_pnum (K : PySem.W.Frag) (d : Nat) : Sp := fun vs H Q _ => ∃ (D : Addr) (kvs : List (List L2.Key × V)) (l : List (Int × Int)) (S : Int → Prop) (lo0 hi0 : Int) (T0 : Tr) (lo hi : Int) (t : Tr), vs = [.ref D, .int lo, .int hi] ∧ H D = some (.dT kvs) ∧ Tied kvs l ∧ (∀ a b, (a, b) ∈ l ↔ tie lo0 hi0 T0 a b) ∧
  TOk S lo0 hi0 T0 ∧ TOk S lo hi t ∧ Full S lo hi ∧ (∀ a b, tie lo hi t a b → tie lo0 hi0 T0 a b) ∧ hi - lo ≤ d ∧ d ≤ 11 ∧ 0 ≤ lo ∧ hi ≤ 12 ∧ ∀ H', Same H H' → Q (.int (numT lo hi t)) H'
theorem ok_part_number (T : Env K mg) : ∀ d : Nat, FnOk P w K mg base CX0 (4 + d) T.a_part_number T.fd_part_number ["tied", "low", "high"] (sp_pnum K d) := by
  intro d
  induction d with
  | zero =>
    refine ⟨fun vs H Q E h => ?_, fun A outer s H args us vs Q E hr he hb hv h => ?_⟩
    · obtain ⟨D, kvs, l, S, lo0, hi0, T0, lo, hi, t, rfl, _⟩ := h
      rfl
    · obtain ⟨D, kvs, l, S, lo0, hi0, T0, lo, hi, t, rfl, _, _, _, _, hT, _, _, hd, _⟩ := h
      have := hT.lt
      omega
  | succ d ih =>
  have ok_numrec : Env K mg → FnOk P w K mg base CX0 (4 + d) T.a_part_number T.fd_part_number ["tied", "low", "high"] (sp_pnum K d) := fun _ => ih
  refine T.F_part_number.ok sc_part_number (fun vs H Q E h => ?_) (fun cdv A outer s H vs Q E hr h => ?_)
  · obtain ⟨D, kvs, l, S, lo0, hi0, T0, lo, hi, t, rfl, _⟩ := h
    rfl
  · obtain ⟨D, kvs, l, S, lo0, hi0, T0, lo, hi, t, rfl, hD, hK, hl, hT0, hT, f, sub, hd, hd11, hlo, hhi, q⟩ := h
    have hr : Room (4 + d) _ := hr
    refine ⟨_, (pss_cons (ps_set (i := 3) sc_part_number.nd rfl (.inl rfl) pe_int)
 (pss_cons (ps_for PassesOwn.never rfl (pi_range2 (by rfl) T.m_range (pa_cons (pe_op op_add (pv 1) pe_int) (pa_cons (pv 2) pa_nil))) (pg_name (i := 4) sc_part_number.nd rfl (.inl rfl))
 (pss_cons (ps_if (PW.pt (pw_and (pt_cmp (pc_din (hu_of hr) (pe_tup (pa_cons (pv 1) (pa_cons (pv 4) pa_nil))) (pv 0))) (pw_and1 (pt_cmp (pc_din (hu_of hr) (pe_tup (pa_cons (pv 4) (pa_cons (pv 2) pa_nil))) (pv 0))))))
 (pss_cons (ps_set (i := 5) sc_part_number.nd rfl (.inl rfl) (pe_call (ok_numrec T) (hr.mono (by omega)) (by rfl) T.g_part_number T.F_part_number.kp T.b_part_number .nil pass0 (pa_cons (pv 0) (pa_cons (pv 1) (pa_cons (pv 4) pa_nil)))))
 (pss_cons (ps_set (i := 6) sc_part_number.nd rfl (.inl rfl) (pe_call (ok_numrec T) (hr.mono (by omega)) (by rfl) T.g_part_number T.F_part_number.kp T.b_part_number .nil pass0 (pa_cons (pv 0) (pa_cons (pv 4) (pa_cons (pv 2) pa_nil)))))
 (pss_one (ps_ret (pe_op op_add (pe_op op_add (pv 3) (pe_op op_mulU (pv 5) (pe_call (ok_part_count T) (hr.mono (by omega)) (by rfl) T.g_part_count T.F_part_count.kp T.b_part_count .nil pass0 (pa_cons (pv 4) (pa_cons (pv 2) pa_nil))))) (pv 6))))))
 pss_nil)
 (pss_one (ps_aug (i := 3) sc_part_number.nd rfl (.inl rfl) (pe_call (ok_with_middle T) (hr.mono (by omega)) (by rfl) T.g_with_middle T.F_with_middle.kp T.b_with_middle .nil pass0 (pa_cons (pv 1) (pa_cons (pv 4) (pa_cons (pv 2) pa_nil)))) ip_add))))
 (pss_one (ps_ret (pv 3))))), ?_⟩
    have hlt := hT.lt
    match t, hT with
    | .lf, hT =>
      have e := lf_one f hT
      refine ⟨_, rfl, _, _, rfl, rfl, _, rfl, lo + 1, hi, rfl, ⟨by omega, by omega, by omega, by omega⟩, for_range (lo := lo + 1) (n := (hi - (lo + 1)).toNat) (fun i σ H' => H' = H ∧ ∃ y1 y2 y3, σ = [some (.ref D), some (.int lo), some (.int hi), some (.int 0), y1, y2, y3]) ⟨rfl, _, _, _, rfl⟩ (fun i σ H' hi' _ => by omega) ?_⟩
      rintro σ H' ⟨rfl, y1, y2, y3, rfl⟩
      exact ⟨_, rfl, q _ (Same.refl _)⟩
    | .nd m l' r, ⟨sm, k1, k2⟩ =>
      have q1 := k1.lt
      have q2 := k2.lt
      have f1 := f.sub (Int.le_refl _) (show m ≤ hi by omega)
      have f2 := f.sub (show lo ≤ m by omega) (Int.le_refl _)
      have p2 := hm_pos (hi - m - 1).toNat (by omega)
      have t1 : tie lo0 hi0 T0 lo m := sub _ _ (.inr (.inl tie_root))
      have t2 : tie lo0 hi0 T0 m hi := sub _ _ (.inr (.inr tie_root))
      have only : ∀ x, lo < x → x < hi → tie lo0 hi0 T0 lo x → tie lo0 hi0 T0 x hi → x = m := fun x x1 x2 x3 x4 =>
        bes_in hT0 hlt (.inl ⟨x1, x2, x3, x4⟩) (.inl ⟨q1, q2, t1, t2⟩) x1 x2 q1 q2
      refine ⟨_, rfl, _, _, rfl, rfl, _, rfl, lo + 1, hi, rfl, ⟨by omega, by omega, by omega, by omega⟩, for_range (lo := lo + 1) (n := (hi - (lo + 1)).toNat)
        (fun i σ H' => Same H H' ∧ (i : Int) ≤ m - lo - 1 ∧ ∃ y1 y2 y3, σ = [some (.ref D), some (.int lo), some (.int hi), some (.int (cS (hi - lo).toNat i)), y1, y2, y3]) ⟨Same.refl _, by omega, _, _, _, rfl⟩ ?_ ?_⟩
      · rintro i σ H' hi' ⟨s1, him, y1, y2, y3, rfl⟩
        have hD1 := s1 _ _ hD
        have small : i ≠ (m - lo - 1).toNat → i < (m - lo - 1).toNat := fun h => by omega
        have at0 : i = (m - lo - 1).toNat → lo + 1 + (i : Int) = m := fun h => by omega
        refine ⟨_, rfl, _, rfl, small200 (by show 2 ≤ 200; decide), fun u hu => ?_⟩
        have s2 : Same H' _ := same_new (o := .tup [.int lo, .int (lo + 1 + (i : Int))]) hu
        have hu2 : (upd H' u (.tup [.int lo, .int (lo + 1 + (i : Int))])) u = some (.tup ((key2 lo (lo + 1 + (i : Int))).map kV)) := upd_same
        generalize upd H' u (.tup [.int lo, .int (lo + 1 + (i : Int))]) = H2 at *
        refine ⟨_, rfl, D, _, rfl, DGet.t (s2 _ _ hD1) hu2, _, rfl, ite2 (fun hx => ?_) (fun hx => ?_)⟩
        · rw [hK, decide_eq_true_eq] at hx
          have x1 := (hl _ _).mp hx
          refine ⟨_, rfl, _, rfl, small200 (by show 2 ≤ 200; decide), fun u' hu' => ?_⟩
          have s3 : Same H2 _ := same_new (o := .tup [.int (lo + 1 + (i : Int)), .int hi]) hu'
          have hu3 : (upd H2 u' (.tup [.int (lo + 1 + (i : Int)), .int hi])) u' = some (.tup ((key2 (lo + 1 + (i : Int)) hi).map kV)) := upd_same
          generalize upd H2 u' (.tup [.int (lo + 1 + (i : Int)), .int hi]) = H3 at *
          have s23 := s2.trans s3
          refine ⟨_, rfl, D, _, rfl, DGet.t (s23 _ _ hD1) hu3, _, rfl, ite2 (fun hy => ?_) (fun hy => ?_)⟩
          · rw [hK, decide_eq_true_eq] at hy
            have x2 := (hl _ _).mp hy
            have em := only _ (by omega) (by omega) x1 x2
            have ei : i = (m - lo - 1).toNat := by omega
            rw [em]
            have s13 := s1.trans s23
            have b1 := num_bd k1 f1 (by omega)
            refine ⟨_, rfl, _, rfl, _, rfl, D, kvs, l, S, lo0, hi0, T0, lo, m, l', rfl, s23 _ _ hD1, hK, hl, hT0, k1, f1, fun a b h => sub _ _ (.inr (.inl h)), by omega, by omega, hlo, by omega, fun H4 s4 => ?_⟩
            refine ⟨_, rfl, _, rfl, _, rfl, D, kvs, l, S, lo0, hi0, T0, m, hi, r, rfl, s4 _ _ (s23 _ _ hD1), hK, hl, hT0, k2, f2, fun a b h => sub _ _ (.inr (.inr h)), by omega, by omega, by omega, hhi, fun H5 s5 => ?_⟩
            have s15 := (s13.trans s4).trans s5
            refine ⟨_, rfl, _, rfl, _, rfl, _, rfl, m, hi, rfl, by omega, by omega, by omega, by omega, _, _, rfl, rfl, mulR (by omega) (by omega), _, _, rfl, rfl, _, rfl, _, _, rfl, rfl, ?_⟩
            have eN := q H5 s15
            rw [show numT lo hi (.nd m l' r) = cS (hi - lo).toNat i + numT lo m l' * hmI (hi - m - 1).toNat + numT m hi r by rw [ei]; rfl] at eN
            exact eN
          · rw [hK, decide_eq_true_eq] at hy
            have hi2 := small fun h => hy (by rw [at0 h]; exact (hl _ _).mpr t2)
            refine ⟨_, rfl, _, rfl, _, rfl, _, rfl, lo, lo + 1 + i, hi, rfl, by omega, by omega, by omega, by omega, by omega, ?_⟩
            rw [show (lo + 1 + (i : Int) - lo - 1).toNat = i by omega, show (hi - (lo + 1 + (i : Int)) - 1).toNat = (hi - lo).toNat - 2 - i by omega]
            exact ⟨_, _, rfl, rfl, s1.trans s23, by omega, _, _, _, rfl⟩
        · rw [hK, decide_eq_true_eq] at hx
          have hi2 := small fun h => hx (by rw [at0 h]; exact (hl _ _).mpr t1)
          refine ⟨_, rfl, _, rfl, _, rfl, _, rfl, lo, lo + 1 + i, hi, rfl, by omega, by omega, by omega, by omega, by omega, ?_⟩
          rw [show (lo + 1 + (i : Int) - lo - 1).toNat = i by omega, show (hi - (lo + 1 + (i : Int)) - 1).toNat = (hi - lo).toNat - 2 - i by omega]
          exact ⟨_, _, rfl, rfl, s1.trans s2, by omega, _, _, _, rfl⟩
      · rintro σ H' ⟨s1, him, _⟩
        omega
theorem ok_pnum11 (T : Env K mg) : FnOk P w K mg base CX0 15 T.a_part_number T.fd_part_number ["tied", "low", "high"] (sp_pnum K 11) := ok_part_number T 11
def sp_numof (K : PySem.W.Frag) : Sp := fun vs H Q _ => ∃ (n : Int) (c : Addr) (xs : List V) (l : List (Int × Int)) (t : Tr), vs = [.int n, .ref c] ∧ 3 ≤ n ∧ n ≤ 12 ∧ H c = some (.lst xs) ∧ PrL K H xs l ∧ l.length ≤ 100 ∧ TOk (inR n) 0 (n - 1) t ∧
  (∀ a b, (a, b) ∈ sidesL n ++ l ↔ tie 0 (n - 1) t a b) ∧ ∀ H', Same H H' → Q (.int (numT 0 (n - 1) t)) H'
theorem ok_number_of (T : Env K mg) : FnOk P w K mg base CX0 16 T.a_number_of T.fd_number_of ["n", "cut"] (sp_numof K) := by
  refine T.F_number_of.ok sc_number_of (fun vs H Q E h => ?_) (fun cdv A outer s H vs Q E hr h => ?_)
  · obtain ⟨n, c, xs, l, t, rfl, _⟩ := h
    rfl
  · obtain ⟨n, c, xs, l, t, rfl, h3, h12, hc, hL, hl, hT, hR, q⟩ := h
    refine ⟨_, (pss_cons (ps_setDct (i := 2) (own := [("tie", 3)]) (by rfl) (hu_of hr) sc_number_of.nd rfl rfl (sw_trueD rfl rfl rfl (by decide +kernel)) (pi_list (pe_call (ok_ties T) (hr.mono (by decide)) (by rfl) T.g_ties T.F_ties.kp T.b_ties .nil pass0 (pa_cons (pv 0) (pa_cons (pv 1) pa_nil)))) (blkOk_by (own := [("tie", 3)]) (N := ["n", "cut", "tied", "tie"]) (sc := defScope s_number_of) (by decide +kernel)) (fun _ _ _ _ _ => (pg_name (i := 3) sc_number_of.nd rfl (.inl rfl))) (fun _ _ _ _ _ => pts_nil) (fun _ _ _ _ _ => (pv 3)) (fun _ _ _ _ _ => pe_bl))
 (pss_one (ps_ret (pe_call (ok_pnum11 T) (hr.mono (by decide)) (by rfl) T.g_part_number T.F_part_number.kp T.b_part_number .nil pass0 (pa_cons (pv 2) (pa_cons pe_int (pa_cons (pe_op op_sub (pv 0) pe_int) pa_nil))))))), ?_⟩
    refine ⟨_, rfl, _, rfl, n, c, xs, l, rfl, h3, h12, hc, hL, hl, fun H1 d ys s1 nd hd hY => ?_⟩
    have htl : (sort2 (sidesL n ++ l)).length ≤ 200 := by
      rw [sort2_len, List.length_append, sidesL_len h3]; omega
    have hyl := hY.length
    refine ⟨d, rfl, ⟨_, .inl (.inl hd)⟩, fun D hD => ?_⟩
    refine dct_list (K := K) (a := d) (xs := ys) (fun i H' => ∃ kvs, Same H1 H' ∧ H' D = some (.dT kvs) ∧ kvs.length ≤ i ∧ Tied kvs ((sort2 (sidesL n ++ l)).take i)) ⟨[], same_new hD, upd_same, Nat.le_refl _, by rw [List.take_zero]; exact Tied.nil⟩ ?_ ?_ ?_
    · rintro i H' _ ⟨kvs, s3, _, _⟩
      exact .inl (.inl (s3 _ _ hd))
    · rintro i x' H' hi ⟨kvs, s3, hz, hkl, hK⟩
      obtain ⟨p, hp, u, rfl, hu⟩ := hY.at hi
      have hil : i < ys.length := (List.getElem?_eq_some_iff.mp hi).1
      refine ⟨rfl, yes_read ?_⟩
      refine ⟨_, rfl, kvs, key2 p.1 p.2, u, rfl, s3 _ _ hu, hz, small200' (by omega), putK kvs (key2 p.1 p.2) (.bl true), ?_, upd_same, ?_, ?_⟩
      · intro b' o eb
        rw [upd_ne (ne_of_none eb hD)]
        exact s3 _ _ eb
      · have := length_putK kvs (key2 p.1 p.2) (V.bl true)
        omega
      · rw [take_more hp]
        exact hK.more
    · rintro H' ⟨kvs, s3, hz, hkl, hK⟩
      rw [List.take_of_length_le (by omega)] at hK
      refine ⟨_, rfl, _, rfl, _, _, rfl, rfl, D, kvs, _, inR n, 0, n - 1, t, 0, n - 1, t, rfl, hz, hK, fun a b => sort2_mem.trans (hR a b), hT, hT, full_n, fun a b h => h, by omega, by omega, by omega, by omega, fun H4 s4 => ?_⟩
      exact q H4 ((s1.trans s3).trans s4)

theorem pi_listK {X : Cx} {tg l : Expr} {tl : TE} (hK : X.K = K) (hl : PE X l tl) : PI X tg l (iList K tl) := by
  subst hK
  exact pi_list hl
theorem pg_tupK {X : Cx} {pos : Pos} {es : List Expr} {k : Nat} {t : TGs} {n : Nat} (hK : X.K = K) (hc : X.calm = true) (h : PGs X es t)
    (hn : (assignEach es X.env).length = n := by rfl) (hst : (assignEach es X.env).findIdx? (·.1) = none := by rfl) : PG X (.Tuple es k pos) (gTup K n t) := by
  subst hK
  exact pg_tup hc h hn hst

abbrev tiesS (n : Int) (l : List (Int × Int)) : List (Int × Int) := sort2 (sidesL n ++ l)
theorem tiesS_len {n : Int} {l : List (Int × Int)} (h3 : 3 ≤ n) (h12 : n ≤ 12) (hl : l.length ≤ 100) : (tiesS n l).length ≤ 200 := by
  unfold tiesS
  rw [sort2_len, List.length_append, sidesL_len h3]
  omega
theorem filter_more {α : Type} {P : α → Bool} {l : List α} {x : α} : (l ++ [x]).filter P = l.filter P ++ (if P x then [x] else []) := by
  rw [List.filter_append]
  congr 1
  cases h : P x <;> simp [List.filter_cons, h]
/-! ### turning -/
def turnL (n : Int) (l : List (Int × Int)) (p : Int × Int) : List (Int × Int) := match besL (tiesS n l) n p.1 p.2 with
  | [x, y] => sort2 ((l.filter fun q => decide (q ≠ p)) ++ [(x, y)])
  | _ => []
/-- what a turning makes -/
structure Turns (n : Int) (l : List (Int × Int)) (p : Int × Int) (x y : Int) : Prop where
  bes : besL (tiesS n l) n p.1 p.2 = [x, y]
  x0 : 0 ≤ x
  xy : x < y
  yn : y < n
  new : (x, y) ∉ l
  crs : (x < p.1 ∧ p.1 < y ∧ y < p.2) ∨ (p.1 < x ∧ x < p.2 ∧ p.2 < y)
  isC : IsCut n (turnL n l p)
  mem : ∀ q, q ∈ turnL n l p ↔ (q ∈ l ∧ q ≠ p) ∨ q = (x, y)
  srt : (turnL n l p).Pairwise le2
  len : (turnL n l p).length = l.length
theorem filter_ne_len {l : List (Int × Int)} {p : Int × Int} (hn : l.Nodup) (hp : p ∈ l) : (l.filter fun q => decide (q ≠ p)).length + 1 = l.length := by
  induction l with
  | nil => cases hp
  | cons a l ih =>
    rw [List.nodup_cons] at hn
    rw [List.filter_cons]
    by_cases e : a = p
    · subst e
      rw [if_neg (by simp)]
      have : l.filter (fun q => decide (q ≠ a)) = l := List.filter_eq_self.mpr fun q hq => decide_eq_true fun e => hn.1 (e ▸ hq)
      rw [this, List.length_cons]
    · rw [if_pos (by simpa using e), List.length_cons, List.length_cons, ih hn.2 ((List.mem_cons.mp hp).resolve_left (Ne.symm e))]
theorem turns {n : Int} {l : List (Int × Int)} {p : Int × Int} (hc : IsCut n l) (hp : p ∈ l) : ∃ x y, Turns n l p x y := by
  obtain ⟨a, b⟩ := p
  obtain ⟨x, y, h1, h2, h3, h4, h5, h6, h7⟩ := turn_cut hc (t := tiesS n l) (fun p => sort2_mem) hp
  have e : turnL n l (a, b) = sort2 ((l.filter fun q => decide (q ≠ (a, b))) ++ [(x, y)]) := by
    unfold turnL
    rw [h1]
  have hm : ∀ q, q ∈ turnL n l (a, b) ↔ (q ∈ l ∧ q ≠ (a, b)) ∨ q = (x, y) := fun q => by
    rw [e, sort2_mem, List.mem_append, List.mem_filter, decide_eq_true_eq, List.mem_singleton]
  have hnd : ((l.filter fun q => decide (q ≠ (a, b))) ++ [(x, y)]).Nodup := by
    rw [List.nodup_append]
    refine ⟨hc.nd.filter _, by simp, fun u hu v hv => ?_⟩
    rw [List.mem_singleton.mp hv]
    intro e
    rw [e] at hu
    exact h5 (List.mem_filter.mp hu).1
  refine ⟨x, y, h1, h2, h3, h4, h5, h6, h7 _ ?_ hm, hm, ?_, ?_⟩
  · rw [e]; exact sort2_nodup hnd
  · rw [e]; exact sort2_sorted _
  · rw [e, sort2_len, List.length_append, List.length_singleton]
    exact filter_ne_len hc.nd hp
theorem PrAt.tups {H H' : Hp} {x : V} {p : Int × Int} (s : TupS H H') (h : PrAt K H x p) : PrAt K H' x p := by
  obtain ⟨t, e, ht⟩ := h
  exact ⟨t, e, s _ _ ht⟩

def sp_lbeside (K : PySem.W.Frag) : Sp := fun vs H Q _ => ∃ (n : Int) (c : Addr) (xs : List V) (t : List (Int × Int)) (a b : Int), vs = [.int n, .ref c, .int a, .int b] ∧ 3 ≤ n ∧ n ≤ 12 ∧ H c = some (.lst xs) ∧ PrL K H xs t ∧ t.length ≤ 200 ∧
  ∀ H' q, Same H H' → H q = none → H' q = some (.lst ((besL t n a b).map V.int)) → Q (.ref q) H'
theorem ok__law_beside (T : Env K mg) : FnOk P w K mg base CX0 2 T.a__law_beside T.fd__law_beside ["_law_n", "_law_all_ties", "_law_a", "_law_b"] (sp_lbeside K) := by
  refine T.F__law_beside.ok sc__law_beside (fun vs H Q E h => ?_) (fun cdv A outer s H vs Q E hr h => ?_)
  · obtain ⟨n, c, xs, t, a, b, rfl, _⟩ := h
    rfl
  · obtain ⟨n, c, xs, t, a, b, rfl, h3, h12, hc, hL, hl, k1⟩ := h
    refine ⟨_, (pss_cons (ps_set (i := 4) sc__law_beside.nd rfl (.inl rfl) (pe_lst pa_nil))
 (pss_cons (ps_for PassesOwn.never rfl (pi_range1 (by rfl) T.m_range (pa_cons (pv 0) pa_nil)) (pg_name (i := 5) sc__law_beside.nd rfl (.inl rfl))
 (pss_one (ps_if (PW.pt (pw_and (pt_cmpR (op_in2 (by have h_ := Room.units2 hr; exact h_)) (pe_call (ok__law_pair T) (hr.mono (by decide)) (by rfl) T.g__law_pair T.F__law_pair.kp T.b__law_pair .nil pass0 (pa_cons (pv 2) (pa_cons (pv 5) pa_nil))) (pv 1) (by rfl)) (pw_and1 (pt_cmpR (op_in2 (by have h_ := Room.units2 hr; exact h_)) (pe_call (ok__law_pair T) (hr.mono (by decide)) (by rfl) T.g__law_pair T.F__law_pair.kp T.b__law_pair .nil pass0 (pa_cons (pv 3) (pa_cons (pv 5) pa_nil))) (pv 1) (by rfl)))))
 (pss_one (ps_expr (pe_bm PySem.F.plainAttrs_list PySem.F.slot_list_append PySem.F.type_list_append mt_append (pv 4) (pa_cons (pv 5) pa_nil))))
 pss_nil)))
 (pss_one (ps_ret (pv 4))))), ?_⟩
    refine ⟨Nat.zero_le _, fun D hD => ?_⟩
    have s1 : Same H _ := same_new (o := .lst []) hD
    refine ⟨_, rfl, n, rfl, by omega, by omega, for_range (lo := 0) (n := n.toNat) (fun i σ H' => ∃ z, σ = [some (.int n), some (.ref c), some (.int a), some (.int b), some (.ref D), z] ∧ Same H H' ∧ H' D = some (.lst ((((rng n).take i).filter fun p => decide (pr a p ∈ t) && decide (pr b p ∈ t)).map V.int))) ⟨_, rfl, s1, upd_same⟩ ?_ ?_⟩
    · rintro i σ H' hi ⟨z, rfl, s3, hz⟩
      have hfl : (((rng n).take i).filter fun p => decide (pr a p ∈ t) && decide (pr b p ∈ t)).length ≤ i := Nat.le_trans (List.length_filter_le _ _) (by rw [List.length_take]; omega)
      have yes : ∀ {H3 : Hp}, (decide (pr a (i : Int) ∈ t) && decide (pr b (i : Int) ∈ t)) = true → Same H' H3 →
          (Same H (upd H3 D (.lst ((((rng n).take i).filter fun p => decide (pr a p ∈ t) && decide (pr b p ∈ t)).map V.int ++ [.int (0 + (i : Int))]))) ∧ (upd H3 D (.lst ((((rng n).take i).filter fun p => decide (pr a p ∈ t) && decide (pr b p ∈ t)).map V.int ++ [.int (0 + (i : Int))]))) D = some (.lst ((((rng n).take (i + 1)).filter fun p => decide (pr a p ∈ t) && decide (pr b p ∈ t)).map V.int))) := by
        intro H3 hc s4
        rw [rng_more n i hi, filter_more, hc, if_pos rfl]
        refine ⟨?_, ?_⟩
        · intro b' o eb
          rw [upd_ne (ne_of_none eb hD)]
          exact s4 _ _ (s3 _ _ eb)
        · rw [upd_same, List.map_append, Int.zero_add]; rfl
      have no : ∀ {H3 : Hp}, (decide (pr a (i : Int) ∈ t) && decide (pr b (i : Int) ∈ t)) = false → Same H' H3 →
          (Same H H3 ∧ H3 D = some (.lst ((((rng n).take (i + 1)).filter fun p => decide (pr a p ∈ t) && decide (pr b p ∈ t)).map V.int))) := by
        intro H3 hc s4
        rw [rng_more n i hi, filter_more, hc, if_neg Bool.false_ne_true, List.append_nil]
        exact ⟨s3.trans s4, s4 _ _ hz⟩
      refine ⟨_, rfl, _, rfl, a, 0 + (i : Int), rfl, fun u hu => ?_⟩
      have s4 : Same H' _ := same_new (o := .tup [.int (pr a (0 + (i : Int))).1, .int (pr a (0 + (i : Int))).2]) hu
      have hu2 : (upd H' u (.tup [.int (pr a (0 + (i : Int))).1, .int (pr a (0 + (i : Int))).2])) u = some (.tup [.int (pr a (0 + (i : Int))).1, .int (pr a (0 + (i : Int))).2]) := upd_same
      generalize upd H' u (.tup [.int (pr a (0 + (i : Int))).1, .int (pr a (0 + (i : Int))).2]) = H4 at *
      rw [Int.zero_add] at hu2
      refine ⟨_, rfl, pr a (i : Int), c, xs, _, ⟨u, rfl, hu2⟩, rfl, .inl (.inl (s4 _ _ (s3 _ _ hc))), hL.mono (s3.trans s4), hl, _, rfl, ?_⟩
      refine ite2 (fun hx => ?_) (fun hx => ?_)
      · have hx : decide (pr a (i : Int) ∈ t) = true := hx
        refine ⟨_, rfl, _, rfl, b, 0 + (i : Int), rfl, fun u' hu' => ?_⟩
        have s5 : Same H4 _ := same_new (o := .tup [.int (pr b (0 + (i : Int))).1, .int (pr b (0 + (i : Int))).2]) hu'
        have hu3 : (upd H4 u' (.tup [.int (pr b (0 + (i : Int))).1, .int (pr b (0 + (i : Int))).2])) u' = some (.tup [.int (pr b (0 + (i : Int))).1, .int (pr b (0 + (i : Int))).2]) := upd_same
        generalize upd H4 u' (.tup [.int (pr b (0 + (i : Int))).1, .int (pr b (0 + (i : Int))).2]) = H5 at *
        rw [Int.zero_add] at hu3
        have s45 := s4.trans s5
        refine ⟨_, rfl, pr b (i : Int), c, xs, _, ⟨u', rfl, hu3⟩, rfl, .inl (.inl (s45 _ _ (s3 _ _ hc))), hL.mono (s3.trans s45), hl, _, rfl, ?_⟩
        refine ite2 (fun hy => ?_) (fun hy => ?_)
        · have hy : decide (pr b (i : Int) ∈ t) = true := hy
          have hDH5 := s45 _ _ hz
          refine ⟨_, rfl, .inl ⟨rfl, _, .inl (.inl hDH5)⟩, _, rfl, D, _, _, rfl, rfl, hDH5, small200' (by rw [List.length_map]; omega), ?_⟩
          exact ⟨_, rfl, yes (by rw [hx, hy]; rfl) s45⟩
        · have hy : ¬ decide (pr b (i : Int) ∈ t) = true := hy
          exact ⟨_, rfl, no (by rw [hx, Bool.eq_false_iff.mpr hy]; rfl) s45⟩
      · have hx : ¬ decide (pr a (i : Int) ∈ t) = true := hx
        exact ⟨_, rfl, no (by rw [Bool.eq_false_iff.mpr hx, Bool.false_and]) s4⟩
    · rintro σ H' ⟨z, rfl, s3, hz⟩
      rw [List.take_of_length_le (by rw [rng_len]; exact Nat.le_refl _)] at hz
      exact ⟨_, rfl, k1 H' D s3 hD hz⟩

def sp_lturned (K : PySem.W.Frag) : Sp := fun vs H Q _ => ∃ (n : Int) (c : Addr) (r : V) (xs : List V) (l : List (Int × Int)) (p : Int × Int), vs = [.int n, .ref c, r] ∧ 3 ≤ n ∧ n ≤ 12 ∧ H c = some (.lst xs) ∧ PrL K H xs l ∧ PrAt K H r p ∧ l.length ≤ 100 ∧ IsCut n l ∧ p ∈ l ∧
  ∀ H' q ys, Same H H' → H q = none → H' q = some (.lst ys) → PrL K H' ys (turnL n l p) → Q (.ref q) H'
theorem ok__law_turned (T : Env K mg) : FnOk P w K mg base CX0 3 T.a__law_turned T.fd__law_turned ["_law_n", "_law_cut", "_law_rope"] (sp_lturned K) := by
  refine T.F__law_turned.ok sc__law_turned (fun vs H Q E h => ?_) (fun cdv A outer s H vs Q E hr h => ?_)
  · obtain ⟨n, c, r, xs, l, p, rfl, _⟩ := h
    rfl
  · obtain ⟨n, c, r, xs, l, p, rfl, h3, h12, hc, hL, hr', hl, hC, hp, k1⟩ := h
    refine ⟨_, (pss_cons (ps_set (i := 3) sc__law_turned.nd rfl (.inl rfl) (pe_call (ok__law_beside T) (hr.mono (by decide)) (by rfl) T.g__law_beside T.F__law_beside.kp T.b__law_beside .nil pass0 (pa_cons (pv 0) (pa_cons (pe_call (ok__law_ties T) (hr.mono (by decide)) (by rfl) T.g__law_ties T.F__law_ties.kp T.b__law_ties .nil pass0 (pa_cons (pv 0) (pa_cons (pv 1) pa_nil))) (pa_cons (pe_ix ix_tup (pv 2) pe_int (fun _ _ => rfl)) (pa_cons (pe_ix ix_tup (pv 2) pe_int (fun _ _ => rfl)) pa_nil))))))
 (pss_one (ps_ret (pe_callB cr_sort2 (by rfl) T.m_sorted (by decide +kernel) (pa_cons (pe_op op_cat (pe_lc (own := [("_law_one", 4)]) (by rfl) sc__law_turned.nd (pi_list (pv 1)) (blkOk_by (own := [("_law_one", 4)]) (N := ["_law_n", "_law_cut", "_law_rope", "_law_ends", "_law_one"]) (sc := defScope s__law_turned) (by decide +kernel)) (fun _ _ _ _ _ => (pg_name (i := 4) sc__law_turned.nd rfl (.inl rfl))) (fun _ _ _ _ _ => (pts_one (pt_cmpR (r := rEqP2 K true) (op_neP2 (by have h_ := hr.units; exact h_)) (pv 4) (pv 2) (nomark _)))) (fun _ _ _ _ _ => (pv 4))) (pe_lst (pa_cons (pe_tup (pa_cons (pe_ix ix_list (pv 3) pe_int (fun _ _ => rfl)) (pa_cons (pe_ix ix_list (pv 3) pe_int (fun _ _ => rfl)) pa_nil))) pa_nil))) pa_nil))))), ?_⟩
    obtain ⟨x, y, hT⟩ := turns hC hp
    obtain ⟨t, rfl, ht⟩ := hr'
    have htl := tiesS_len h3 h12 hl
    have hxl := hL.length
    refine ⟨_, rfl, _, rfl, _, rfl, n, c, xs, l, rfl, h3, h12, hc, hL, hl, fun H1 d zs s1 nd hd hZ => ?_⟩
    have hT1 : SqT K H1 t [.int p.1, .int p.2] := .inl (.inl (s1 _ _ ht))
    refine ⟨_, rfl, t, _, _, _, rfl, rfl, hT1, atI_nat (j := 0) rfl, _, rfl, t, _, _, _, rfl, rfl, hT1, atI_nat (j := 1) rfl, n, d, zs, _, p.1, p.2, rfl, h3, h12, hd, hZ, htl, fun H2 e s2 ne he => ?_⟩
    rw [hT.bes] at he
    have s12 := s1.trans s2
    have hE : SqL K H2 e [.int x, .int y] := .inl (.inl he)
    refine ⟨_, rfl, c, rfl, ⟨_, .inl (.inl (s12 _ _ hc))⟩, fun D hD => ?_⟩
    refine lc_list (K := K) (a := c) (xs := xs) (fun i H' => ∃ ws, Same H2 H' ∧ H' D = some (.lst ws) ∧ PrL K H' ws ((l.take i).filter fun q => decide (q ≠ p))) ⟨[], same_new hD, upd_same, by rw [List.take_zero]; exact .nil⟩ ?_ ?_ ?_
    · rintro i H' _ ⟨ws, s3, _, _⟩
      exact .inl (.inl (s3 _ _ (s12 _ _ hc)))
    · rintro i x' H' hi ⟨ws, s3, hz, hW⟩
      obtain ⟨q', hq', hx⟩ := hL.at hi
      have hx' := hx.mono (s12.trans s3)
      have hil : i < l.length := (List.getElem?_eq_some_iff.mp hq').1
      have hzl := hW.length
      have hfl : ((l.take i).filter fun q => decide (q ≠ p)).length ≤ i := Nat.le_trans (List.length_filter_le _ _) (by rw [List.length_take]; omega)
      refine ⟨rfl, _, rfl, _, rfl, q', p, hx', ⟨t, rfl, s3 _ _ (s12 _ _ ht)⟩, _, rfl, ?_⟩
      show if (!decide (q' = p)) = true then _ else _
      rw [take_more hq', filter_more]
      by_cases e : q' = p
      · rw [decide_eq_true e]
        refine iteF ?_
        rw [if_neg (by simp [e]), List.append_nil]
        exact ⟨ws, s3, hz, hW⟩
      · rw [decide_eq_false e]
        refine iteT ?_
        rw [if_pos (by simpa using e)]
        refine ⟨_, rfl, ws, hz, small200' (by omega), ws ++ [x'], ?_, upd_same, ?_⟩
        · intro b' o eb
          rw [upd_ne (ne_of_none eb hD)]
          exact s3 _ _ eb
        · have ts := TupS.put (o := .lst (ws ++ [x'])) hz
          exact (hW.tups ts).app (.one (hx'.tups ts))
    · rintro H' ⟨ws, s3, hz, hW⟩
      rw [List.take_of_length_le (by omega)] at hW
      have hzl := hW.length
      have hfl : (l.filter fun q => decide (q ≠ p)).length ≤ l.length := List.length_filter_le _ _
      have hE' : SqL K H' e [.int x, .int y] := s3.seq hE
      refine ⟨_, rfl, e, _, _, _, rfl, rfl, hE', atI_nat (j := 0) rfl, _, rfl, e, _, _, _, rfl, rfl, hE', atI_nat (j := 1) rfl, small200 (by show 2 ≤ 200; decide), fun u hu => ?_⟩
      have s4 : Same H' _ := same_new (o := .tup [.int x, .int y]) hu
      have hu2 : (upd H' u (.tup [.int x, .int y])) u = some (.tup [.int x, .int y]) := upd_same
      generalize upd H' u (.tup [.int x, .int y]) = H3 at *
      refine ⟨small200 (by show 1 ≤ 200; decide), fun v hv => ?_⟩
      have s5 : Same H3 _ := same_new (o := .lst [.ref u]) hv
      have hv2 : (upd H3 v (.lst [.ref u])) v = some (.lst [.ref u]) := upd_same
      generalize upd H3 v (.lst [.ref u]) = H4 at *
      refine ⟨D, v, ws, [.ref u], rfl, rfl, s5 _ _ (s4 _ _ hz), hv2, small200 (by show ws.length + 1 ≤ 200; omega), fun r hr2 => ?_⟩
      have s6 : Same H4 _ := same_new (o := .lst (ws ++ [.ref u])) hr2
      have hr3 : (upd H4 r (.lst (ws ++ [.ref u]))) r = some (.lst (ws ++ [.ref u])) := upd_same
      generalize upd H4 r (.lst (ws ++ [.ref u])) = H5 at *
      have s46 := (s4.trans s5).trans s6
      have s16 := (s12.trans s3).trans s46
      have hZ5 : PrL K H5 (ws ++ [.ref u]) ((l.filter fun q => decide (q ≠ p)) ++ [(x, y)]) := (hW.mono s46).app (.one ⟨u, rfl, (s5.trans s6) _ _ hu2⟩)
      refine ⟨r, _, _, rfl, .inl (.inl hr3), hZ5, fun ys g hY hg => ?_⟩
      have e : turnL n l p = sort2 ((l.filter fun q => decide (q ≠ p)) ++ [(x, y)]) := by
        unfold turnL
        rw [hT.bes]
      rw [← e] at hY
      have s7 : Same H5 _ := same_new (o := .lst ys) hg
      exact k1 _ g ys (s16.trans s7) (none_back s16 hg) upd_same (hY.mono s7)

/-! ### the order, walked part by part -/
/-- the cutting l stands for the tree T0 -/
def Stands (n : Int) (l : List (Int × Int)) (T0 : Tr) : Prop := ∀ a b, (a, b) ∈ l ↔ tie 0 (n - 1) T0 a b ∧ a + 2 ≤ b ∧ ¬ (a = 0 ∧ b = n - 1)
def tiedB (l : List (Int × Int)) (a b : Int) : Bool := decide (b - a = 1 ∨ (a, b) ∈ l)
theorem tied_tie {n : Int} {l : List (Int × Int)} {T0 : Tr} (hT : TOk (inR n) 0 (n - 1) T0) (hR : Stands n l T0) {a b : Int} (h0 : 0 ≤ a) (hab : a < b) (hb : b ≤ n - 1) (hn : ¬ (a = 0 ∧ b = n - 1)) : (b - a = 1 ∨ (a, b) ∈ l) ↔ tie 0 (n - 1) T0 a b := by
  constructor
  · rintro (h | h)
    · exact tie_adj hT ⟨by omega, by omega⟩ ⟨by omega, by omega⟩ ⟨h0, by omega⟩ ⟨by omega, by omega⟩ hab (fun z _ hh => by omega) h0 hb
    · exact ((hR a b).mp h).1
  · intro h
    by_cases e : b - a = 1
    · exact .inl e
    · exact .inr ((hR a b).mpr ⟨h, by omega, hn⟩)
def sp_tied (K : PySem.W.Frag) : Sp := fun vs H Q _ => ∃ (lo hi : Int) (c : Addr) (xs : List V) (l : List (Int × Int)), vs = [.int lo, .int hi, .ref c] ∧ H c = some (.lst xs) ∧ PrL K H xs l ∧ l.length ≤ 100 ∧ ∀ H', Same H H' → Q (.bl (tiedB l lo hi)) H'
theorem ok__law_tied (T : Env K mg) : FnOk P w K mg base CX0 1 T.a__law_tied T.fd__law_tied ["_law_low", "_law_high", "_law_cut"] (sp_tied K) := by
  refine T.F__law_tied.ok sc__law_tied (fun vs H Q E h => ?_) (fun cdv A outer s H vs Q E hr h => ?_)
  · obtain ⟨lo, hi, c, xs, l, rfl, _⟩ := h
    rfl
  · obtain ⟨lo, hi, c, xs, l, rfl, hc, hL, hl, q⟩ := h
    refine ⟨_, (pss_one (ps_ret (pe_or (pe_cmpR op_eq (pe_op op_sub (pv 1) (pv 0)) pe_int (nomark _)) (pe_one (pe_cmpR (op_in2 (by have h_ := Room.units2 hr; exact h_)) (pe_tup (pa_cons (pv 0) (pa_cons (pv 1) pa_nil))) (pv 2) (by rfl)))))), ?_⟩
    refine ⟨_, rfl, _, rfl, _, _, rfl, rfl, rfl, _, rfl, ?_⟩
    by_cases e : hi - lo = 1
    · have e2 : tiedB l lo hi = true := decide_eq_true (.inl e)
      show if decide (V.int (hi - lo) = V.int 1) = true then _ else _
      rw [decide_eq_true (by rw [e])]
      refine iteT ?_
      have := q H (Same.refl _)
      rw [e2] at this
      exact this
    · show if decide (V.int (hi - lo) = V.int 1) = true then _ else _
      rw [decide_eq_false (fun z => e (V.int.inj z))]
      refine iteF ?_
      refine ⟨_, rfl, _, rfl, small200 (by show 2 ≤ 200; decide), fun u hu => ?_⟩
      have s1 : Same H _ := same_new (o := .tup [.int lo, .int hi]) hu
      have hu2 : (upd H u (.tup [.int lo, .int hi])) u = some (.tup [.int lo, .int hi]) := upd_same
      generalize upd H u (.tup [.int lo, .int hi]) = H1 at *
      refine ⟨_, rfl, (lo, hi), c, xs, l, ⟨u, rfl, hu2⟩, rfl, .inl (.inl (s1 _ _ hc)), hL.mono s1, by omega, ?_⟩
      have e2 : tiedB l lo hi = decide ((lo, hi) ∈ l) := by
        unfold tiedB
        rw [decide_eq_decide]
        exact ⟨fun h => h.resolve_left e, .inr⟩
      have := q H1 s1
      rw [e2] at this
      exact this
def sp_middle (K : PySem.W.Frag) : Sp := fun vs H Q _ => ∃ (lo hi : Int) (c : Addr) (xs : List V) (l : List (Int × Int)) (n : Int) (T0 : Tr) (m : Int), vs = [.int lo, .int hi, .ref c] ∧ H c = some (.lst xs) ∧ PrL K H xs l ∧ l.length ≤ 100 ∧ n ≤ 12 ∧ TOk (inR n) 0 (n - 1) T0 ∧ Stands n l T0 ∧ 0 ≤ lo ∧ hi ≤ n - 1 ∧
  lo < m ∧ m < hi ∧ tie 0 (n - 1) T0 lo m ∧ tie 0 (n - 1) T0 m hi ∧ ∀ H', Same H H' → Q (.int m) H'
theorem ok__law_middle (T : Env K mg) : FnOk P w K mg base CX0 2 T.a__law_middle T.fd__law_middle ["_law_low", "_law_high", "_law_cut"] (sp_middle K) := by
  refine T.F__law_middle.ok sc__law_middle (fun vs H Q E h => ?_) (fun cdv A outer s H vs Q E hr h => ?_)
  · obtain ⟨lo, hi, c, xs, l, n, T0, m, rfl, _⟩ := h
    rfl
  · obtain ⟨lo, hi, c, xs, l, n, T0, m, rfl, hc, hL, hl, hn, hT, hR, h0, hi1, q1, q2, t1, t2, q⟩ := h
    refine ⟨_, (pss_cons (ps_for PassesOwn.never rfl (pi_range2 (by rfl) T.m_range (pa_cons (pe_op op_add (pv 0) pe_int) (pa_cons (pv 1) pa_nil))) (pg_name (i := 3) sc__law_middle.nd rfl (.inl rfl))
 (pss_one (ps_if (PW.pt (pw_and (pt_val (pe_call (ok__law_tied T) (hr.mono (by decide)) (by rfl) T.g__law_tied T.F__law_tied.kp T.b__law_tied .nil pass0 (pa_cons (pv 0) (pa_cons (pv 3) (pa_cons (pv 2) pa_nil))))) (pw_and1 (pt_val (pe_call (ok__law_tied T) (hr.mono (by decide)) (by rfl) T.g__law_tied T.F__law_tied.kp T.b__law_tied .nil pass0 (pa_cons (pv 3) (pa_cons (pv 1) (pa_cons (pv 2) pa_nil))))))))
 (pss_one (ps_ret (pv 3)))
 pss_nil)))
 (pss_one (ps_ret (pv 0)))), ?_⟩
    have only : ∀ x, lo < x → x < hi → tie 0 (n - 1) T0 lo x → tie 0 (n - 1) T0 x hi → x = m := fun x x1 x2 x3 x4 =>
      bes_in hT (show lo < hi by omega) (.inl ⟨x1, x2, x3, x4⟩) (.inl ⟨q1, q2, t1, t2⟩) x1 x2 q1 q2
    refine ⟨_, rfl, _, _, rfl, rfl, _, rfl, lo + 1, hi, rfl, ⟨by omega, by omega, by omega, by omega⟩, for_range (lo := lo + 1) (n := (hi - (lo + 1)).toNat)
      (fun i σ H' => Same H H' ∧ (i : Int) ≤ m - lo - 1 ∧ ∃ y, σ = [some (.int lo), some (.int hi), some (.ref c), y]) ⟨Same.refl _, by omega, _, rfl⟩ ?_ ?_⟩
    · rintro i σ H' hi' ⟨s1, him, y, rfl⟩
      have at0 : (i : Int) = m - lo - 1 → lo + 1 + (i : Int) = m := fun h => by omega
      have i1 := tied_tie hT hR (a := lo) (b := lo + 1 + i) h0 (by omega) (by omega) (by omega)
      have i2 := tied_tie hT hR (a := lo + 1 + i) (b := hi) (by omega) (by omega) hi1 (by omega)
      refine ⟨_, rfl, _, rfl, _, rfl, lo, lo + 1 + i, c, xs, l, rfl, s1 _ _ hc, hL.mono s1, hl, fun H2 s2 => ⟨_, rfl, ite2 (fun hx => ?_) (fun hx => ?_)⟩⟩
      · have x1 := i1.mp (of_decide_eq_true hx)
        have s12 := s1.trans s2
        refine ⟨_, rfl, _, rfl, _, rfl, lo + 1 + i, hi, c, xs, l, rfl, s12 _ _ hc, hL.mono s12, hl, fun H3 s3 => ⟨_, rfl, ite2 (fun hy => ?_) (fun hy => ?_)⟩⟩
        · have x2 := i2.mp (of_decide_eq_true hy)
          have em := only _ (by omega) (by omega) x1 x2
          refine ⟨_, rfl, ?_⟩
          rw [em]
          exact q H3 (s12.trans s3)
        · have hy := nd hy
          have hlt : (i : Int) ≠ m - lo - 1 := fun h => hy (i2.mpr (by rw [at0 h]; exact t2))
          exact ⟨s12.trans s3, by omega, _, rfl⟩
      · have hx := nd hx
        have hlt : (i : Int) ≠ m - lo - 1 := fun h => hx (i1.mpr (by rw [at0 h]; exact t1))
        exact ⟨s1.trans s2, by omega, _, rfl⟩
    · rintro σ H' ⟨s1, him, _⟩
      omega
def sp_order (K : PySem.W.Frag) (d : Nat) : Sp := fun vs H Q _ => ∃ (lo hi : Int) (c c' : Addr) (xs xs' : List V) (l l' : List (Int × Int)) (n : Int) (T0 T0' t t' : Tr), vs = [.int lo, .int hi, .ref c, .ref c'] ∧ H c = some (.lst xs) ∧ PrL K H xs l ∧ l.length ≤ 100 ∧ H c' = some (.lst xs') ∧ PrL K H xs' l' ∧ l'.length ≤ 100 ∧ n ≤ 12 ∧
  TOk (inR n) 0 (n - 1) T0 ∧ Stands n l T0 ∧ TOk (inR n) 0 (n - 1) T0' ∧ Stands n l' T0' ∧ TOk (inR n) lo hi t ∧ TOk (inR n) lo hi t' ∧ (∀ a b, tie lo hi t a b → tie 0 (n - 1) T0 a b) ∧ (∀ a b, tie lo hi t' a b → tie 0 (n - 1) T0' a b) ∧ 0 ≤ lo ∧ hi ≤ n - 1 ∧ hi - lo ≤ d ∧
  ∀ H', Same H H' → Q (.int (ordT lo hi t t')) H'
theorem ok__law_order (T : Env K mg) : ∀ d : Nat, FnOk P w K mg base CX0 (3 + d) T.a__law_order T.fd__law_order ["_law_low", "_law_high", "_law_one", "_law_other"] (sp_order K d) := by
  intro d
  induction d with
  | zero =>
    refine ⟨fun vs H Q E h => ?_, fun A outer s H args us vs Q E hr he hb hv h => ?_⟩
    · obtain ⟨lo, hi, c, c', xs, xs', l, l', n, T0, T0', t, t', rfl, _⟩ := h
      rfl
    · obtain ⟨lo, hi, c, c', xs, xs', l, l', n, T0, T0', t, t', rfl, _, _, _, _, _, _, _, _, _, _, _, ht, _, _, _, _, _, hd, _⟩ := h
      have := ht.lt
      omega
  | succ d ih =>
  have ok_ordrec : Env K mg → FnOk P w K mg base CX0 (3 + d) T.a__law_order T.fd__law_order ["_law_low", "_law_high", "_law_one", "_law_other"] (sp_order K d) := fun _ => ih
  refine T.F__law_order.ok sc__law_order (fun vs H Q E h => ?_) (fun cdv A outer s H vs Q E hr h => ?_)
  · obtain ⟨lo, hi, c, c', xs, xs', l, l', n, T0, T0', t, t', rfl, _⟩ := h
    rfl
  · obtain ⟨lo, hi, c, c', xs, xs', l, l', n, T0, T0', t, t', rfl, hc, hL, hl, hc', hL', hl', hn, hT, hR, hT', hR', ht, ht', sub, sub', h0, h1, hd, q⟩ := h
    have hr : Room (3 + d) _ := hr
    refine ⟨_, (pss_cons (ps_if (pt_cmpR op_lt (pe_op op_sub (pv 1) (pv 0)) pe_int (nomark _))
 (pss_one (ps_ret pe_int))
 pss_nil)
 (pss_cons (ps_set (i := 4) sc__law_order.nd rfl (.inl rfl) (pe_call (ok__law_middle T) (hr.mono (by omega)) (by rfl) T.g__law_middle T.F__law_middle.kp T.b__law_middle .nil pass0 (pa_cons (pv 0) (pa_cons (pv 1) (pa_cons (pv 2) pa_nil)))))
 (pss_cons (ps_set (i := 5) sc__law_order.nd rfl (.inl rfl) (pe_call (ok__law_middle T) (hr.mono (by omega)) (by rfl) T.g__law_middle T.F__law_middle.kp T.b__law_middle .nil pass0 (pa_cons (pv 0) (pa_cons (pv 1) (pa_cons (pv 3) pa_nil)))))
 (pss_cons (ps_if (pt_cmpR op_ne (pv 4) (pv 5) (nomark _))
 (pss_one (ps_ret (pe_op op_sub (pv 4) (pv 5))))
 pss_nil)
 (pss_cons (ps_set (i := 6) sc__law_order.nd rfl (.inl rfl) (pe_call (ok_ordrec T) (hr.mono (by omega)) (by rfl) T.g__law_order T.F__law_order.kp T.b__law_order .nil pass0 (pa_cons (pv 0) (pa_cons (pv 4) (pa_cons (pv 2) (pa_cons (pv 3) pa_nil))))))
 (pss_cons (ps_if (pt_cmpR op_ne (pv 6) pe_int (nomark _))
 (pss_one (ps_ret (pv 6)))
 pss_nil)
 (pss_one (ps_ret (pe_call (ok_ordrec T) (hr.mono (by omega)) (by rfl) T.g__law_order T.F__law_order.kp T.b__law_order .nil pass0 (pa_cons (pv 4) (pa_cons (pv 1) (pa_cons (pv 2) (pa_cons (pv 3) pa_nil))))))))))))), ?_⟩
    have hf : Full (inR n) lo hi := fun z z1 z2 => ⟨by omega, by omega⟩
    have hlt := ht.lt
    refine ⟨_, rfl, _, rfl, _, _, rfl, rfl, _, _, rfl, rfl, _, rfl, ite2 (fun hx => ?_) (fun hx => ?_)⟩
    · have hx := of_decide_eq_true hx
      match t, t', ht, ht' with
      | .lf, .lf, _, _ => exact q H (Same.refl _)
      | .lf, .nd m' l2 r2, _, ⟨_, k1, k2⟩ => have := k1.lt; have := k2.lt; omega
      | .nd m l1 r1, _, ⟨_, k1, k2⟩, _ => have := k1.lt; have := k2.lt; omega
    · have hx := nd hx
      match t, t', ht, ht' with
      | .lf, _, ht, _ => have := lf_one hf ht; omega
      | .nd _ _ _, .lf, _, ht' => have := lf_one hf ht'; omega
      | .nd m l1 r1, .nd m' l2 r2, ⟨sm, k1, k2⟩, ⟨sm', k1', k2'⟩ =>
        have q1 := k1.lt
        have q2 := k2.lt
        have q1' := k1'.lt
        have q2' := k2'.lt
        refine ⟨_, rfl, _, rfl, _, rfl, lo, hi, c, xs, l, n, T0, m, rfl, hc, hL, hl, hn, hT, hR, h0, h1, q1, q2, sub _ _ (.inr (.inl tie_root)), sub _ _ (.inr (.inr tie_root)), fun H1 s1 => ?_⟩
        refine ⟨_, rfl, _, rfl, _, rfl, lo, hi, c', xs', l', n, T0', m', rfl, s1 _ _ hc', hL'.mono s1, hl', hn, hT', hR', h0, h1, q1', q2', sub' _ _ (.inr (.inl tie_root)), sub' _ _ (.inr (.inr tie_root)), fun H2 s2 => ?_⟩
        have s12 := s1.trans s2
        refine ⟨_, rfl, _, rfl, rfl, _, rfl, ?_⟩
        by_cases em : m = m'
        · show if (!decide (V.int m = V.int m')) = true then _ else _
          rw [decide_eq_true (by rw [em])]
          refine iteF ?_
          subst em
          refine ⟨_, rfl, _, rfl, _, rfl, _, rfl, lo, m, c, c', xs, xs', l, l', n, T0, T0', l1, l2, rfl, s12 _ _ hc, hL.mono s12, hl, s12 _ _ hc', hL'.mono s12, hl', hn, hT, hR, hT', hR', k1, k1', fun a b h => sub _ _ (.inr (.inl h)), fun a b h => sub' _ _ (.inr (.inl h)), h0, by omega, by omega, fun H3 s3 => ?_⟩
          have s13 := s12.trans s3
          refine ⟨_, rfl, rfl, _, rfl, ?_⟩
          by_cases eo : ordT lo m l1 l2 = 0
          · show if (!decide (V.int (ordT lo m l1 l2) = V.int 0)) = true then _ else _
            rw [decide_eq_true (by rw [eo])]
            refine iteF ?_
            refine ⟨_, rfl, _, rfl, _, rfl, _, rfl, m, hi, c, c', xs, xs', l, l', n, T0, T0', r1, r2, rfl, s13 _ _ hc, hL.mono s13, hl, s13 _ _ hc', hL'.mono s13, hl', hn, hT, hR, hT', hR', k2, k2', fun a b h => sub _ _ (.inr (.inr h)), fun a b h => sub' _ _ (.inr (.inr h)), by omega, h1, by omega, fun H4 s4 => ?_⟩
            have := q H4 (s13.trans s4)
            rw [show ordT lo hi (.nd m l1 r1) (.nd m l2 r2) = ordT m hi r1 r2 by show ite _ _ _ = _; rw [if_pos rfl, if_pos eo]] at this
            exact this
          · show if (!decide (V.int (ordT lo m l1 l2) = V.int 0)) = true then _ else _
            rw [decide_eq_false (fun z => eo (V.int.inj z))]
            refine iteT ?_
            refine ⟨_, rfl, ?_⟩
            have := q H3 s13
            rw [show ordT lo hi (.nd m l1 r1) (.nd m l2 r2) = ordT lo m l1 l2 by show ite _ _ _ = _; rw [if_pos rfl, if_neg eo]] at this
            exact this
        · show if (!decide (V.int m = V.int m')) = true then _ else _
          rw [decide_eq_false (fun z => em (V.int.inj z))]
          refine iteT ?_
          refine ⟨_, rfl, _, rfl, _, _, rfl, rfl, ?_⟩
          have := q H2 s12
          rw [show ordT lo hi (.nd m l1 r1) (.nd m' l2 r2) = m - m' by show ite _ _ _ = _; rw [if_neg em]] at this
          exact this
theorem ok_ord11 (T : Env K mg) : FnOk P w K mg base CX0 14 T.a__law_order T.fd__law_order ["_law_low", "_law_high", "_law_one", "_law_other"] (sp_order K 11) := ok__law_order T 11

def sp_whole : Sp := fun vs H Q _ => ∃ n : Int, vs = [.int n] ∧ Q (.bl true) H
theorem ok__law_whole (T : Env K mg) : FnOk P w K mg base CX0 1 T.a__law_whole T.fd__law_whole ["_law_found"] sp_whole := by
  refine T.F__law_whole.ok sc__law_whole (fun vs H Q E h => ?_) (fun cdv A outer s H vs Q E hr h => ?_)
  · obtain ⟨n, rfl, _⟩ := h
    rfl
  · obtain ⟨n, rfl, q⟩ := h
    refine ⟨_, (pss_one (ps_ret (pe_and (pe_callB call_isi (by rfl) T.m_isinstance (by decide +kernel) (pa_cons (pv 0) (pa_cons (pe_bltn (v := .ty "int") (u := .type "int") (by rfl) T.m_int (by decide +kernel) rfl) pa_nil))) (pe_one (pe_not (pe_callB call_isi (by rfl) T.m_isinstance (by decide +kernel) (pa_cons (pv 0) (pa_cons (pe_bltn (v := .ty "bool") (u := .type "bool") (by rfl) T.m_bool (by decide +kernel) rfl) pa_nil)))))))), ?_⟩
    refine ⟨_, rfl, _, _, _, _, _, rfl, .ty _, .base (.int _), kit_ty (by decide +kernel), true, rfl, iteT ?_⟩
    exact ⟨_, rfl, _, _, _, _, _, rfl, .ty _, .base (.int _), kit_ty (by decide +kernel), false, rfl, q⟩

theorem two_sh (l m : List (Int × Int)) (h1 : l.length ≤ 200) (h2 : m.length ≤ 200) : SeqAt.shaped (.list [.list (l.map dat2), .list (m.map dat2)]) = true := by
  have a1 := dat2_sh2 l h1
  have a2 := dat2_sh2 m h2
  unfold SeqAt.shaped at *
  rw [Bool.and_eq_true, decide_eq_true_eq] at a1 a2 ⊢
  refine ⟨?_, ?_⟩
  · show (PyData.canLay0 (.list (l.map dat2)) && (PyData.canLay0 (.list (m.map dat2)) && true)) = true
    rw [a1.1, a2.1]; rfl
  · have key : ∀ l : List (Int × Int), PyData.depthAll (l.map dat2) ≤ 1 := by
      intro l
      induction l with
      | nil => decide
      | cons p l ih =>
        show max (PyData.depth (dat2 p)) (PyData.depthAll (l.map dat2)) ≤ 1
        have : PyData.depth (dat2 p) = 1 := rfl
        omega
    have k1 := key l
    have k2 := key m
    simp only [PyData.depth, PyData.depthAll]
    omega
theorem two_eqv (l m : List (Int × Int)) : PyData.eqv (.list [.list (l.map dat2), .list (m.map dat2)]) (.list [.list (l.map dat2), .list (m.map dat2)]) = true := by
  show PyData.eqvAll [.list (l.map dat2), .list (m.map dat2)] [.list (l.map dat2), .list (m.map dat2)] = true
  simp only [PyData.eqvAll, PyData.eqv, dat2s_eqv, decide_true, Bool.and_self]

def sp_law (K : PySem.W.Frag) : Sp := fun vs H Q _ => ∃ (a : Addr) (ns : List Int), vs = [.ref a] ∧ SqL K H a (ns.map V.int) ∧ ns.length ≤ 63 ∧ ∀ H', Q (.bl true) H'
theorem cut_ok (rs : List Int) (k : Nat) : cutV (rs.map V.int) (some (k : Int)) none = (rs.drop k).map V.int := by rw [cut_drop, List.map_drop]
theorem rowOk_drop {rs : List Int} (h : rowOk rs) (k : Nat) : rowOk (rs.drop k) := fun v hv => h v (List.mem_of_mem_drop hv)
theorem isCut_perm {n : Int} {l m : List (Int × Int)} (h : IsCut n l) (p : m.Perm l) : IsCut n m := by
  obtain ⟨T, hT, hR⟩ := h.ex
  exact ⟨h.three, p.nodup_iff.mpr h.nd, T, hT, fun a b => (p.mem_iff).trans (hR a b)⟩
theorem list2_ext {l m : List (Int × Int)} (h1 : l.Pairwise le2) (h2 : m.Pairwise le2) (n1 : l.Nodup) (n2 : m.Nodup) (h : ∀ x, x ∈ l ↔ x ∈ m) : l = m :=
  List.Perm.eq_of_pairwise (le := le2) (fun _ _ _ _ => le2_anti) h1 h2 ((List.perm_ext_iff_of_nodup n1 n2).mpr h)
theorem pair_at {H : Hp} {xs : List V} {l : List (Int × Int)} {k : Nat} (h : PrL K H xs l) (hk : k < l.length) : ∃ (x : V) (p : Int × Int), p ∈ l ∧ atI xs (k : Int) = some x ∧ PrAt K H x p := by
  obtain ⟨x, ex, hx⟩ := h.at' (List.getElem?_eq_getElem hk)
  exact ⟨x, l[k], List.getElem_mem hk, atI_nat ex, hx⟩
/-- a cutting that stands at c -/
structure CutAt (K : PySem.W.Frag) (H : Hp) (n : Int) (c : Addr) (l : List (Int × Int)) : Prop where
  isC : IsCut n l
  srt : l.Pairwise le2
  len : (l.length : Int) = n - 3
  ex : ∃ xs, H c = some (.lst xs) ∧ PrL K H xs l
theorem CutAt.mono {H H' : Hp} {n : Int} {c : Addr} {l : List (Int × Int)} (s : Same H H') (h : CutAt K H n c l) : CutAt K H' n c l := by
  obtain ⟨xs, e1, e2⟩ := h.ex
  exact ⟨h.isC, h.srt, h.len, ⟨xs, s _ _ e1, e2.mono s⟩⟩
theorem two_trees {n : Int} {l m : List (Int × Int)} (hl : IsCut n l) (hm : IsCut n m) (sl : l.Pairwise le2) (sm : m.Pairwise le2) : ∃ T T', TOk (inR n) 0 (n - 1) T ∧ Stands n l T ∧ TOk (inR n) 0 (n - 1) T' ∧ Stands n m T' ∧ (l = m ↔ T = T') := by
  obtain ⟨T, hT, hR⟩ := hl.ex
  by_cases e : l = m
  · subst e
    exact ⟨T, T, hT, hR, hT, hR, ⟨fun _ => rfl, fun _ => rfl⟩⟩
  · obtain ⟨T', hT', hR'⟩ := hm.ex
    refine ⟨T, T', hT, hR, hT', hR', ⟨fun h => absurd h e, fun h => ?_⟩⟩
    subst h
    exact list2_ext sl sm hl.nd hm.nd fun p => (hR p.1 p.2).trans (hR' p.1 p.2).symm
theorem bl_eq {A B : Prop} [Decidable A] [Decidable B] (h : A ↔ B) : decide (V.bl (decide A) = V.bl (decide B)) = true := decide_eq_true (congrArg V.bl (decide_eq_decide.mpr h))
theorem ok_law (T : Env K mg) : FnOk P w K mg base CX0 17 T.a_law T.fd_law ["_law_script"] (sp_law K) := by
  refine T.F_law.ok sc_law (fun vs H Q E h => ?_) (fun cdv A outer s H vs Q E hr h => ?_)
  · obtain ⟨a, ns, rfl, _⟩ := h
    rfl
  · obtain ⟨a, ns, rfl, hS, hl, q⟩ := h
    refine ⟨_, (pss_cons (ps_set (i := 1) sc_law.nd rfl (.inl rfl) (pe_call (ok__law_flow T) (hr.mono (by decide)) (by rfl) T.g__law_flow T.F__law_flow.kp T.b__law_flow .nil pass0 (pa_cons (pv 0) (pa_cons pe_int pa_nil))))
 (C8.pss_cut (ps_set (i := 2) sc_law.nd rfl (.inl rfl) (pe_op op_add pe_int (pe_op op_mod (pe_ix ix_list (pv 1) pe_int (fun _ _ => rfl)) pe_int)))
 (pss_cons (ps_set (i := 3) sc_law.nd rfl (.inl rfl) (pe_call (ok__law_ropes T) (hr.mono (by decide)) (by rfl) T.g__law_ropes T.F__law_ropes.kp T.b__law_ropes .nil pass0 (pa_cons (pe_call (ok__law_ears T) (hr.mono (by decide)) (by rfl) T.g__law_ears T.F__law_ears.kp T.b__law_ears .nil pass0 (pa_cons (pv 2) (pa_cons (pe_slice sl_list (pv 1) (po_some pe_int) po_none) pa_nil))) pa_nil)))
 (pss_cons (ps_set (i := 4) sc_law.nd rfl (.inl rfl) (pe_call (ok__law_ropes T) (hr.mono (by decide)) (by rfl) T.g__law_ropes T.F__law_ropes.kp T.b__law_ropes .nil pass0 (pa_cons (pe_call (ok__law_ears T) (hr.mono (by decide)) (by rfl) T.g__law_ears T.F__law_ears.kp T.b__law_ears .nil pass0 (pa_cons (pv 2) (pa_cons (pe_slice sl_list (pv 1) (po_some pe_int) po_none) pa_nil))) pa_nil)))
 (C8.pss_cut (ps_if (PW.pt (pw_and (pt_cmpR op_eq (pe_op op_mod (pe_ix ix_list (pv 1) pe_int (fun _ _ => rfl)) pe_int) pe_int (nomark _)) (pw_and1 (pt_cmpR op_gt (pv 2) pe_int (nomark _)))))
 (pss_one (ps_set (i := 4) sc_law.nd rfl (.inl rfl) (pe_call (ok__law_turned T) (hr.mono (by decide)) (by rfl) T.g__law_turned T.F__law_turned.kp T.b__law_turned .nil pass0 (pa_cons (pv 2) (pa_cons (pv 3) (pa_cons (pe_ix ix_list (pv 3) (pe_op op_mod (pe_ix ix_list (pv 1) pe_int (fun _ _ => rfl)) (pe_callB call_len_seq (by rfl) T.m_len (by decide +kernel) (pa_cons (pv 3) pa_nil))) (fun _ _ => rfl)) pa_nil))))))
 pss_nil)
 (pss_cons (ps_set (i := 5) sc_law.nd rfl (.inl rfl) (pe_lst (pa_cons (pe_callTy call_list_of (by rfl) T.m_list (by decide +kernel) (pa_cons (pv 3) pa_nil)) (pa_cons (pe_callTy call_list_of (by rfl) T.m_list (by decide +kernel) (pa_cons (pv 4) pa_nil)) pa_nil))))
 (pss_cons (ps_set (i := 6) sc_law.nd rfl (.inl rfl) (pe_call (ok_number_of T) (hr.mono (by decide)) (by rfl) T.g_number_of T.F_number_of.kp T.b_number_of .nil pass0 (pa_cons (pv 2) (pa_cons (pe_ix ix_list (pv 5) pe_int (fun _ _ => rfl)) pa_nil))))
 (pss_cons (ps_set (i := 7) sc_law.nd rfl (.inl rfl) (pe_call (ok_number_of T) (hr.mono (by decide)) (by rfl) T.g_number_of T.F_number_of.kp T.b_number_of .nil pass0 (pa_cons (pv 2) (pa_cons (pe_ix ix_list (pv 5) pe_int (fun _ _ => rfl)) pa_nil))))
 (pss_cons (ps_if (PW.pt (pw_or (pt_cmpR (op_neD hr.units) (pv 5) (pe_lst (pa_cons (pv 3) (pa_cons (pv 4) pa_nil))) (nomark _)) (pw_or (pt_not (pt_val (pe_call (ok__law_whole T) (hr.mono (by decide)) (by rfl) T.g__law_whole T.F__law_whole.kp T.b__law_whole .nil pass0 (pa_cons (pv 6) pa_nil)))) (pw_or1 (pt_not (pt_val (pe_call (ok__law_whole T) (hr.mono (by decide)) (by rfl) T.g__law_whole T.F__law_whole.kp T.b__law_whole .nil pass0 (pa_cons (pv 7) pa_nil))))))))
 (pss_one (ps_ret pe_bl))
 pss_nil)
 (pss_cons (ps_set (i := 8) sc_law.nd rfl (.inl rfl) (pe_call (ok_ord11 T) (hr.mono (by decide)) (by rfl) T.g__law_order T.F__law_order.kp T.b__law_order .nil pass0 (pa_cons pe_int (pa_cons (pe_op op_sub (pv 2) pe_int) (pa_cons (pv 3) (pa_cons (pv 4) pa_nil))))))
 (pss_one (ps_ret (pe_and (pe_cmpR op_eq (pe_cmpR op_lt (pv 6) (pv 7) (nomark _)) (pe_cmpR op_lt (pv 8) pe_int (nomark _)) (nomark _)) (pe_and (pe_cmpR op_eq (pe_cmpR op_gt (pv 6) (pv 7) (nomark _)) (pe_cmpR op_gt (pv 8) pe_int (nomark _)) (nomark _)) (pe_one (pe_cmpR op_eq (pe_cmpR op_eq (pv 6) (pv 7) (nomark _)) (pe_cmpR (op_eqL2 (by have h_ := hr.units; exact h_)) (pv 3) (pv 4) (nomark _)) (nomark _))))))))))))))))), ?_⟩
    refine ⟨_, rfl, a, ns, 28, rfl, hS, hl, by decide, by decide, fun H1 p rs hs hp hlen hro hrow => ?_⟩
    have hlen : rs.length = 28 := hlen
    have hR : ∀ {H2}, Same H1 H2 → SqL K H2 p (rs.map V.int) := fun s => .inl (.inl (s _ _ hrow))
    obtain ⟨r0, m0, a0⟩ := int_at (rs := rs) (k := 0) (by omega)
    obtain ⟨r1, m1, a1⟩ := int_at (rs := rs) (k := 1) (by omega)
    obtain ⟨r2, m2, a2⟩ := int_at (rs := rs) (k := 2) (by omega)
    have n0 := Int.emod_nonneg r0 (show (10 : Int) ≠ 0 by decide)
    have n1 := Int.emod_lt_of_pos r0 (show (0 : Int) < 10 by decide)
    refine ⟨fun σ' H2 => H2 = H1 ∧ ∃ n : Int, σ' = [some (.ref a), some (.ref p), some (.int n), none, none, none, none, none, none] ∧ 3 ≤ n ∧ n ≤ 12, ?_, ?_⟩
    · exact ⟨_, rfl, p, _, _, _, rfl, rfl, hR (Same.refl _), a0, _, _, rfl, rfl, (by show (0 : Int) < _; decide), _, _, rfl, rfl, rfl, _, rfl, by omega, by omega⟩
    rintro _ H1 ⟨rfl, n, rfl, h3, h12⟩
    refine ⟨_, rfl, _, rfl, 3, rfl, p, _, rfl, hR (Same.refl _), fun q1 hq1 => ?_⟩
    have s1 : Same H1 _ := same_new (o := .lst (cutV (rs.map V.int) (some 3) none)) hq1
    have e1 : (upd H1 q1 (.lst (cutV (rs.map V.int) (some 3) none))) q1 = some (.lst ((rs.drop 3).map V.int)) := by rw [upd_same, show (3 : Int) = ((3 : Nat) : Int) from rfl, cut_ok]
    generalize upd H1 q1 (.lst (cutV (rs.map V.int) (some 3) none)) = H3 at *
    refine ⟨n, q1, rs.drop 3, rfl, h3, h12, .inl (.inl e1), by rw [List.length_drop]; omega, rowOk_drop hro 3, fun H4 o xs es s2 no ho hE hel hC => ?_⟩
    refine ⟨o, xs, es, rfl, ho, hE, by omega, fun H5 c ys s3 nc hc hY => ?_⟩
    have D1 : CutAt K H5 n c (sort2 (es.map earR)) := ⟨isCut_perm hC (sort2_perm _), sort2_sorted _, by rw [sort2_len, List.length_map]; exact hel, ⟨ys, hc, hY⟩⟩
    generalize sort2 (es.map earR) = one at *
    have s5 := (s1.trans s2).trans s3
    clear s1 e1 s2 no ho hE hel hC s3 nc hc hY
    refine ⟨_, rfl, _, rfl, 15, rfl, p, _, rfl, hR s5, fun q1 hq1 => ?_⟩
    have s1 : Same H5 _ := same_new (o := .lst (cutV (rs.map V.int) (some 15) none)) hq1
    have e1 : (upd H5 q1 (.lst (cutV (rs.map V.int) (some 15) none))) q1 = some (.lst ((rs.drop 15).map V.int)) := by rw [upd_same, show (15 : Int) = ((15 : Nat) : Int) from rfl, cut_ok]
    generalize upd H5 q1 (.lst (cutV (rs.map V.int) (some 15) none)) = H6 at *
    refine ⟨n, q1, rs.drop 15, rfl, h3, h12, .inl (.inl e1), by rw [List.length_drop]; omega, rowOk_drop hro 15, fun H7 o xs es s2 no ho hE hel hC => ?_⟩
    refine ⟨o, xs, es, rfl, ho, hE, by omega, fun H8 g ys s3 ng hg hY => ?_⟩
    have D2 : CutAt K H8 n g (sort2 (es.map earR)) := ⟨isCut_perm hC (sort2_perm _), sort2_sorted _, by rw [sort2_len, List.length_map]; exact hel, ⟨ys, hg, hY⟩⟩
    generalize sort2 (es.map earR) = two at *
    have D1 := D1.mono ((s1.trans s2).trans s3)
    have s5 := s5.trans ((s1.trans s2).trans s3)
    clear s1 e1 s2 no ho hE hel hC s3 ng hg hY
    refine ⟨fun σ' H' => Same H8 H' ∧ ∃ (g : Addr) (two : List (Int × Int)), σ' = [some (.ref a), some (.ref p), some (.int n), some (.ref c), some (.ref g), none, none, none, none] ∧ CutAt K H' n g two, ?_, ?_⟩
    · refine ⟨_, rfl, p, _, _, _, rfl, rfl, hR s5, a1, _, _, rfl, rfl, (by show (0 : Int) < _; decide), rfl, _, rfl, ite2 (fun _ => ?_) (fun _ => ⟨Same.refl _, g, two, rfl, D2⟩)⟩
      refine ⟨_, rfl, _, _, rfl, rfl, _, rfl, ite2 (fun hn => ?_) (fun _ => ⟨Same.refl _, g, two, rfl, D2⟩)⟩
      have hn : n > 3 := of_decide_eq_true hn
      obtain ⟨xs, hc, hX⟩ := D1.ex
      have hln := D1.len
      have hxl := hX.length
      have hpos : (0 : Int) < (xs.length : Int) := by omega
      have k0 := Int.emod_nonneg r2 (show (xs.length : Int) ≠ 0 by omega)
      have k1 := Int.emod_lt_of_pos r2 hpos
      obtain ⟨x, pq, hpq, ex, hx⟩ := pair_at hX (k := (r2 % (xs.length : Int)).toNat) (by omega)
      rw [Int.toNat_of_nonneg k0] at ex
      obtain ⟨x1, y1, hTn⟩ := turns D1.isC hpq
      refine ⟨_, rfl, _, rfl, _, rfl, _, rfl, p, _, _, _, rfl, rfl, hR s5, a2, _, rfl, _, _, rfl, .inl (.inl (.inl hc)), _, _, rfl, rfl, hpos, c, xs, _, x, rfl, rfl, .inl (.inl hc), ex, n, c, x, xs, one, pq, rfl, h3, h12, hc, hX, hx, by omega, D1.isC, hpq, fun H' g' zs s6 ng hg hZ => ?_⟩
      exact ⟨s6, g', _, rfl, hTn.isC, hTn.srt, by rw [hTn.len]; exact hln, ⟨zs, hg, hZ⟩⟩
    clear D2
    rintro _ H9 ⟨s89, g, two, rfl, D2⟩
    have D1 := D1.mono s89
    obtain ⟨xs, hc, hX⟩ := D1.ex
    obtain ⟨ys, hg, hY⟩ := D2.ex
    have hl1 := D1.len
    have hl2 := D2.len
    obtain ⟨T1, T2, hT1, hR1, hT2, hR2, hiff⟩ := two_trees D1.isC D2.isC D1.srt D2.srt
    refine ⟨_, rfl, c, xs, rfl, .inl (.inl (.inl hc)), fun h1 n1 => ?_⟩
    have u1 : Same H9 _ := same_new (o := .lst xs) n1
    have e1 : (upd H9 h1 (.lst xs)) h1 = some (.lst xs) := upd_same
    generalize upd H9 h1 (.lst xs) = HA at *
    refine ⟨_, rfl, g, ys, rfl, .inl (.inl (.inl (u1 _ _ hg))), fun h2 n2 => ?_⟩
    have u2 : Same HA _ := same_new (o := .lst ys) n2
    have e2 : (upd HA h2 (.lst ys)) h2 = some (.lst ys) := upd_same
    generalize upd HA h2 (.lst ys) = HB at *
    refine ⟨small200 (by show 2 ≤ 200; decide), fun hh n3 => ?_⟩
    have u3 : Same HB _ := same_new (o := .lst [.ref h1, .ref h2]) n3
    have e3 : (upd HB hh (.lst [.ref h1, .ref h2])) hh = some (.lst [.ref h1, .ref h2]) := upd_same
    generalize upd HB hh (.lst [.ref h1, .ref h2]) = HC at *
    have e1 := u3 _ _ (u2 _ _ e1)
    have e2 := u3 _ _ e2
    have u9 := (u1.trans u2).trans u3
    have hc := u9 _ _ hc
    have hg := u9 _ _ hg
    have hX := hX.mono u9
    have hY := hY.mono u9
    have hHS : SqL K HC hh [.ref h1, .ref h2] := .inl (.inl e3)
    have ht1 := ties_iff h3 hT1 hR1
    have ht2 := ties_iff h3 hT2 hR2
    refine ⟨_, rfl, _, rfl, hh, _, _, V.ref h1, rfl, rfl, hHS, atI_nat (j := 0) rfl, n, h1, xs, one, T1, rfl, h3, h12, e1, hX, by omega, hT1, ht1, fun HD sD => ?_⟩
    refine ⟨_, rfl, _, rfl, hh, _, _, V.ref h2, rfl, rfl, sD.seq hHS, atI_nat (j := 1) rfl, n, h2, ys, two, T2, rfl, h3, h12, sD _ _ e2, hY.mono sD, by omega, hT2, ht2, fun HE sE => ?_⟩
    have sDE := sD.trans sE
    refine ⟨_, rfl, _, rfl, _, rfl, small200 (by show 2 ≤ 200; decide), fun k nk => ?_⟩
    have u4 : Same HE _ := same_new (o := .lst [.ref c, .ref g]) nk
    have e4 : (upd HE k (.lst [.ref c, .ref g])) k = some (.lst [.ref c, .ref g]) := upd_same
    generalize upd HE k (.lst [.ref c, .ref g]) = HF at *
    have sF := sDE.trans u4
    have hXF := hX.mono sF
    have hYF := hY.mono sF
    refine ⟨_, _, .lst (.inl (.inl (sF _ _ e3))) (.cons (.lst (.inl (.inl (sF _ _ e1))) hXF.dp) (.cons (.lst (.inl (.inl (sF _ _ e2))) hYF.dp) .nil)), .lst (.inl (.inl e4)) (.cons (.lst (.inl (.inl (sF _ _ hc))) hXF.dp) (.cons (.lst (.inl (.inl (sF _ _ hg))) hYF.dp) .nil)), two_sh _ _ (by omega) (by omega), two_sh _ _ (by omega) (by omega), _, rfl, ?_⟩
    rw [two_eqv]
    refine iteF ?_
    refine ⟨_, rfl, _, rfl, true, rfl, iteF ?_⟩
    refine ⟨_, rfl, _, rfl, true, rfl, iteF ?_⟩
    refine ⟨_, rfl, _, _, rfl, rfl, _, rfl, _, rfl, 0, n - 1, c, g, xs, ys, one, two, n, T1, T2, T1, T2, rfl, sF _ _ hc, hXF, by omega, sF _ _ hg, hYF, by omega, h12, hT1, hR1, hT2, hR2, hT1, hT2, fun _ _ h => h, fun _ _ h => h, by omega, Int.le_refl _, by omega, fun HG sG => ?_⟩
    have ord := ord_num hT1 hT2 (full_n (n := n)) (by omega)
    generalize ordT 0 (n - 1) T1 T2 = due at *
    have hnum : numT 0 (n - 1) T1 = numT 0 (n - 1) T2 ↔ one = two := by
      rw [hiff]
      constructor
      · intro h
        rcases ord with o | o | o
        · exact o.2
        · omega
        · omega
      · intro h
        rw [h]
    have i1 : numT 0 (n - 1) T1 < numT 0 (n - 1) T2 ↔ due < 0 := by
      rcases ord with ⟨o1, o2⟩ | o | o
      · rw [o2]; omega
      · omega
      · omega
    have i2 : numT 0 (n - 1) T1 > numT 0 (n - 1) T2 ↔ due > 0 := by
      rcases ord with ⟨o1, o2⟩ | o | o
      · rw [o2]; omega
      · omega
      · omega
    generalize numT 0 (n - 1) T1 = A1 at *
    generalize numT 0 (n - 1) T2 = A2 at *
    refine ⟨_, rfl, _, rfl, _, _, rfl, rfl, _, rfl, _, _, rfl, rfl, rfl, _, rfl, ?_⟩
    show if decide (V.bl (decide (A1 < A2)) = V.bl (decide (due < 0))) = true then _ else _
    rw [bl_eq i1]
    refine iteT ?_
    refine ⟨_, rfl, _, rfl, _, _, rfl, rfl, _, rfl, _, _, rfl, rfl, rfl, _, rfl, ?_⟩
    show if decide (V.bl (decide (A1 > A2)) = V.bl (decide (due > 0))) = true then _ else _
    rw [bl_eq i2]
    refine iteT ?_
    have sFG := sF.trans sG
    refine ⟨_, rfl, _, rfl, rfl, _, rfl, _, rfl, c, g, xs, ys, one, two, rfl, rfl, .inl (.inl (sFG _ _ hc)), hX.mono sFG, .inl (.inl (sFG _ _ hg)), hY.mono sFG, by omega, by omega, rfl, ?_⟩
    show Q (V.bl (decide (V.bl (decide (V.int A1 = V.int A2)) = V.bl (decide (one = two))))) HG
    rw [bl_eq (show V.int A1 = V.int A2 ↔ one = two from ⟨fun h => hnum.mp (V.int.inj h), fun h => congrArg V.int (hnum.mpr h)⟩)]
    exact q _

theorem all_mk {l : PySem.W.OpenLaw} {w : World} {K : PySem.W.Frag} {h : Heap} {mg : Str → Option Value} {fa f_sides f_ties f_how_many f_number_of f_part_number f_with_middle f_part_count f__law_flow f__law_whole f__law_pair f__law_ears f__law_ropes f__law_sides f__law_ties f__law_beside f__law_turned f__law_tied f__law_middle f__law_order f_law : Addr} (X : K.In h) (G : h.Ns mainGlobals mg) (hfa : mg "law" = some (.ref fa))
    {od_sides an_sides : Option Addr} {sl_sides : Array (Option Value)} {oc_sides kV_sides dc_sides pm_sides cd_sides ct_sides : Value}
    {od_ties an_ties : Option Addr} {sl_ties : Array (Option Value)} {oc_ties kV_ties dc_ties pm_ties cd_ties ct_ties : Value}
    {od_how_many an_how_many : Option Addr} {sl_how_many : Array (Option Value)} {oc_how_many kV_how_many dc_how_many pm_how_many cd_how_many ct_how_many : Value}
    {od_number_of an_number_of : Option Addr} {sl_number_of : Array (Option Value)} {oc_number_of kV_number_of dc_number_of pm_number_of cd_number_of ct_number_of : Value}
    {od_part_number an_part_number : Option Addr} {sl_part_number : Array (Option Value)} {oc_part_number kV_part_number dc_part_number pm_part_number cd_part_number ct_part_number : Value}
    {od_with_middle an_with_middle : Option Addr} {sl_with_middle : Array (Option Value)} {oc_with_middle kV_with_middle dc_with_middle pm_with_middle cd_with_middle ct_with_middle : Value}
    {od_part_count an_part_count : Option Addr} {sl_part_count : Array (Option Value)} {oc_part_count kV_part_count dc_part_count pm_part_count cd_part_count ct_part_count : Value}
    {od__law_flow an__law_flow : Option Addr} {sl__law_flow : Array (Option Value)} {oc__law_flow kV__law_flow dc__law_flow pm__law_flow cd__law_flow ct__law_flow : Value}
    {od__law_whole an__law_whole : Option Addr} {sl__law_whole : Array (Option Value)} {oc__law_whole kV__law_whole dc__law_whole pm__law_whole cd__law_whole ct__law_whole : Value}
    {od__law_pair an__law_pair : Option Addr} {sl__law_pair : Array (Option Value)} {oc__law_pair kV__law_pair dc__law_pair pm__law_pair cd__law_pair ct__law_pair : Value}
    {od__law_ears an__law_ears : Option Addr} {sl__law_ears : Array (Option Value)} {oc__law_ears kV__law_ears dc__law_ears pm__law_ears cd__law_ears ct__law_ears : Value}
    {od__law_ropes an__law_ropes : Option Addr} {sl__law_ropes : Array (Option Value)} {oc__law_ropes kV__law_ropes dc__law_ropes pm__law_ropes cd__law_ropes ct__law_ropes : Value}
    {od__law_sides an__law_sides : Option Addr} {sl__law_sides : Array (Option Value)} {oc__law_sides kV__law_sides dc__law_sides pm__law_sides cd__law_sides ct__law_sides : Value}
    {od__law_ties an__law_ties : Option Addr} {sl__law_ties : Array (Option Value)} {oc__law_ties kV__law_ties dc__law_ties pm__law_ties cd__law_ties ct__law_ties : Value}
    {od__law_beside an__law_beside : Option Addr} {sl__law_beside : Array (Option Value)} {oc__law_beside kV__law_beside dc__law_beside pm__law_beside cd__law_beside ct__law_beside : Value}
    {od__law_turned an__law_turned : Option Addr} {sl__law_turned : Array (Option Value)} {oc__law_turned kV__law_turned dc__law_turned pm__law_turned cd__law_turned ct__law_turned : Value}
    {od__law_tied an__law_tied : Option Addr} {sl__law_tied : Array (Option Value)} {oc__law_tied kV__law_tied dc__law_tied pm__law_tied cd__law_tied ct__law_tied : Value}
    {od__law_middle an__law_middle : Option Addr} {sl__law_middle : Array (Option Value)} {oc__law_middle kV__law_middle dc__law_middle pm__law_middle cd__law_middle ct__law_middle : Value}
    {od__law_order an__law_order : Option Addr} {sl__law_order : Array (Option Value)} {oc__law_order kV__law_order dc__law_order pm__law_order cd__law_order ct__law_order : Value}
    {od_law an_law : Option Addr} {sl_law : Array (Option Value)} {oc_law kV_law dc_law pm_law cd_law ct_law : Value}
    (a_sides : PySem.W.nsIn K mainGlobals "sides" = some (some (.ref f_sides)))
    (l_sides : K.lookup f_sides = some ⟨oc_sides, od_sides, .func (PySem.W.fnOf "sides" "sides" (defArgs s_sides) (defBody s_sides) (defScope s_sides) .none kV_sides dc_sides pm_sides an_sides cd_sides ct_sides), sl_sides⟩)
    (c_sides : PySem.W.codeIn K cd_sides "sides" = true)
    (k_sides : PySem.W.keepIn K (.ref f_sides) = true)
    (a_ties : PySem.W.nsIn K mainGlobals "ties" = some (some (.ref f_ties)))
    (l_ties : K.lookup f_ties = some ⟨oc_ties, od_ties, .func (PySem.W.fnOf "ties" "ties" (defArgs s_ties) (defBody s_ties) (defScope s_ties) .none kV_ties dc_ties pm_ties an_ties cd_ties ct_ties), sl_ties⟩)
    (c_ties : PySem.W.codeIn K cd_ties "ties" = true)
    (k_ties : PySem.W.keepIn K (.ref f_ties) = true)
    (a_how_many : PySem.W.nsIn K mainGlobals "how_many" = some (some (.ref f_how_many)))
    (l_how_many : K.lookup f_how_many = some ⟨oc_how_many, od_how_many, .func (PySem.W.fnOf "how_many" "how_many" (defArgs s_how_many) (defBody s_how_many) (defScope s_how_many) .none kV_how_many dc_how_many pm_how_many an_how_many cd_how_many ct_how_many), sl_how_many⟩)
    (c_how_many : PySem.W.codeIn K cd_how_many "how_many" = true)
    (k_how_many : PySem.W.keepIn K (.ref f_how_many) = true)
    (a_number_of : PySem.W.nsIn K mainGlobals "number_of" = some (some (.ref f_number_of)))
    (l_number_of : K.lookup f_number_of = some ⟨oc_number_of, od_number_of, .func (PySem.W.fnOf "number_of" "number_of" (defArgs s_number_of) (defBody s_number_of) (defScope s_number_of) .none kV_number_of dc_number_of pm_number_of an_number_of cd_number_of ct_number_of), sl_number_of⟩)
    (c_number_of : PySem.W.codeIn K cd_number_of "number_of" = true)
    (k_number_of : PySem.W.keepIn K (.ref f_number_of) = true)
    (a_part_number : PySem.W.nsIn K mainGlobals "part_number" = some (some (.ref f_part_number)))
    (l_part_number : K.lookup f_part_number = some ⟨oc_part_number, od_part_number, .func (PySem.W.fnOf "part_number" "part_number" (defArgs s_part_number) (defBody s_part_number) (defScope s_part_number) .none kV_part_number dc_part_number pm_part_number an_part_number cd_part_number ct_part_number), sl_part_number⟩)
    (c_part_number : PySem.W.codeIn K cd_part_number "part_number" = true)
    (k_part_number : PySem.W.keepIn K (.ref f_part_number) = true)
    (a_with_middle : PySem.W.nsIn K mainGlobals "with_middle" = some (some (.ref f_with_middle)))
    (l_with_middle : K.lookup f_with_middle = some ⟨oc_with_middle, od_with_middle, .func (PySem.W.fnOf "with_middle" "with_middle" (defArgs s_with_middle) (defBody s_with_middle) (defScope s_with_middle) .none kV_with_middle dc_with_middle pm_with_middle an_with_middle cd_with_middle ct_with_middle), sl_with_middle⟩)
    (c_with_middle : PySem.W.codeIn K cd_with_middle "with_middle" = true)
    (k_with_middle : PySem.W.keepIn K (.ref f_with_middle) = true)
    (a_part_count : PySem.W.nsIn K mainGlobals "part_count" = some (some (.ref f_part_count)))
    (l_part_count : K.lookup f_part_count = some ⟨oc_part_count, od_part_count, .func (PySem.W.fnOf "part_count" "part_count" (defArgs s_part_count) (defBody s_part_count) (defScope s_part_count) .none kV_part_count dc_part_count pm_part_count an_part_count cd_part_count ct_part_count), sl_part_count⟩)
    (c_part_count : PySem.W.codeIn K cd_part_count "part_count" = true)
    (k_part_count : PySem.W.keepIn K (.ref f_part_count) = true)
    (a__law_flow : PySem.W.nsIn K mainGlobals "_law_flow" = some (some (.ref f__law_flow)))
    (l__law_flow : K.lookup f__law_flow = some ⟨oc__law_flow, od__law_flow, .func (PySem.W.fnOf "_law_flow" "_law_flow" (defArgs s__law_flow) (defBody s__law_flow) (defScope s__law_flow) .none kV__law_flow dc__law_flow pm__law_flow an__law_flow cd__law_flow ct__law_flow), sl__law_flow⟩)
    (c__law_flow : PySem.W.codeIn K cd__law_flow "_law_flow" = true)
    (k__law_flow : PySem.W.keepIn K (.ref f__law_flow) = true)
    (a__law_whole : PySem.W.nsIn K mainGlobals "_law_whole" = some (some (.ref f__law_whole)))
    (l__law_whole : K.lookup f__law_whole = some ⟨oc__law_whole, od__law_whole, .func (PySem.W.fnOf "_law_whole" "_law_whole" (defArgs s__law_whole) (defBody s__law_whole) (defScope s__law_whole) .none kV__law_whole dc__law_whole pm__law_whole an__law_whole cd__law_whole ct__law_whole), sl__law_whole⟩)
    (c__law_whole : PySem.W.codeIn K cd__law_whole "_law_whole" = true)
    (k__law_whole : PySem.W.keepIn K (.ref f__law_whole) = true)
    (a__law_pair : PySem.W.nsIn K mainGlobals "_law_pair" = some (some (.ref f__law_pair)))
    (l__law_pair : K.lookup f__law_pair = some ⟨oc__law_pair, od__law_pair, .func (PySem.W.fnOf "_law_pair" "_law_pair" (defArgs s__law_pair) (defBody s__law_pair) (defScope s__law_pair) .none kV__law_pair dc__law_pair pm__law_pair an__law_pair cd__law_pair ct__law_pair), sl__law_pair⟩)
    (c__law_pair : PySem.W.codeIn K cd__law_pair "_law_pair" = true)
    (k__law_pair : PySem.W.keepIn K (.ref f__law_pair) = true)
    (a__law_ears : PySem.W.nsIn K mainGlobals "_law_ears" = some (some (.ref f__law_ears)))
    (l__law_ears : K.lookup f__law_ears = some ⟨oc__law_ears, od__law_ears, .func (PySem.W.fnOf "_law_ears" "_law_ears" (defArgs s__law_ears) (defBody s__law_ears) (defScope s__law_ears) .none kV__law_ears dc__law_ears pm__law_ears an__law_ears cd__law_ears ct__law_ears), sl__law_ears⟩)
    (c__law_ears : PySem.W.codeIn K cd__law_ears "_law_ears" = true)
    (k__law_ears : PySem.W.keepIn K (.ref f__law_ears) = true)
    (a__law_ropes : PySem.W.nsIn K mainGlobals "_law_ropes" = some (some (.ref f__law_ropes)))
    (l__law_ropes : K.lookup f__law_ropes = some ⟨oc__law_ropes, od__law_ropes, .func (PySem.W.fnOf "_law_ropes" "_law_ropes" (defArgs s__law_ropes) (defBody s__law_ropes) (defScope s__law_ropes) .none kV__law_ropes dc__law_ropes pm__law_ropes an__law_ropes cd__law_ropes ct__law_ropes), sl__law_ropes⟩)
    (c__law_ropes : PySem.W.codeIn K cd__law_ropes "_law_ropes" = true)
    (k__law_ropes : PySem.W.keepIn K (.ref f__law_ropes) = true)
    (a__law_sides : PySem.W.nsIn K mainGlobals "_law_sides" = some (some (.ref f__law_sides)))
    (l__law_sides : K.lookup f__law_sides = some ⟨oc__law_sides, od__law_sides, .func (PySem.W.fnOf "_law_sides" "_law_sides" (defArgs s__law_sides) (defBody s__law_sides) (defScope s__law_sides) .none kV__law_sides dc__law_sides pm__law_sides an__law_sides cd__law_sides ct__law_sides), sl__law_sides⟩)
    (c__law_sides : PySem.W.codeIn K cd__law_sides "_law_sides" = true)
    (k__law_sides : PySem.W.keepIn K (.ref f__law_sides) = true)
    (a__law_ties : PySem.W.nsIn K mainGlobals "_law_ties" = some (some (.ref f__law_ties)))
    (l__law_ties : K.lookup f__law_ties = some ⟨oc__law_ties, od__law_ties, .func (PySem.W.fnOf "_law_ties" "_law_ties" (defArgs s__law_ties) (defBody s__law_ties) (defScope s__law_ties) .none kV__law_ties dc__law_ties pm__law_ties an__law_ties cd__law_ties ct__law_ties), sl__law_ties⟩)
    (c__law_ties : PySem.W.codeIn K cd__law_ties "_law_ties" = true)
    (k__law_ties : PySem.W.keepIn K (.ref f__law_ties) = true)
    (a__law_beside : PySem.W.nsIn K mainGlobals "_law_beside" = some (some (.ref f__law_beside)))
    (l__law_beside : K.lookup f__law_beside = some ⟨oc__law_beside, od__law_beside, .func (PySem.W.fnOf "_law_beside" "_law_beside" (defArgs s__law_beside) (defBody s__law_beside) (defScope s__law_beside) .none kV__law_beside dc__law_beside pm__law_beside an__law_beside cd__law_beside ct__law_beside), sl__law_beside⟩)
    (c__law_beside : PySem.W.codeIn K cd__law_beside "_law_beside" = true)
    (k__law_beside : PySem.W.keepIn K (.ref f__law_beside) = true)
    (a__law_turned : PySem.W.nsIn K mainGlobals "_law_turned" = some (some (.ref f__law_turned)))
    (l__law_turned : K.lookup f__law_turned = some ⟨oc__law_turned, od__law_turned, .func (PySem.W.fnOf "_law_turned" "_law_turned" (defArgs s__law_turned) (defBody s__law_turned) (defScope s__law_turned) .none kV__law_turned dc__law_turned pm__law_turned an__law_turned cd__law_turned ct__law_turned), sl__law_turned⟩)
    (c__law_turned : PySem.W.codeIn K cd__law_turned "_law_turned" = true)
    (k__law_turned : PySem.W.keepIn K (.ref f__law_turned) = true)
    (a__law_tied : PySem.W.nsIn K mainGlobals "_law_tied" = some (some (.ref f__law_tied)))
    (l__law_tied : K.lookup f__law_tied = some ⟨oc__law_tied, od__law_tied, .func (PySem.W.fnOf "_law_tied" "_law_tied" (defArgs s__law_tied) (defBody s__law_tied) (defScope s__law_tied) .none kV__law_tied dc__law_tied pm__law_tied an__law_tied cd__law_tied ct__law_tied), sl__law_tied⟩)
    (c__law_tied : PySem.W.codeIn K cd__law_tied "_law_tied" = true)
    (k__law_tied : PySem.W.keepIn K (.ref f__law_tied) = true)
    (a__law_middle : PySem.W.nsIn K mainGlobals "_law_middle" = some (some (.ref f__law_middle)))
    (l__law_middle : K.lookup f__law_middle = some ⟨oc__law_middle, od__law_middle, .func (PySem.W.fnOf "_law_middle" "_law_middle" (defArgs s__law_middle) (defBody s__law_middle) (defScope s__law_middle) .none kV__law_middle dc__law_middle pm__law_middle an__law_middle cd__law_middle ct__law_middle), sl__law_middle⟩)
    (c__law_middle : PySem.W.codeIn K cd__law_middle "_law_middle" = true)
    (k__law_middle : PySem.W.keepIn K (.ref f__law_middle) = true)
    (a__law_order : PySem.W.nsIn K mainGlobals "_law_order" = some (some (.ref f__law_order)))
    (l__law_order : K.lookup f__law_order = some ⟨oc__law_order, od__law_order, .func (PySem.W.fnOf "_law_order" "_law_order" (defArgs s__law_order) (defBody s__law_order) (defScope s__law_order) .none kV__law_order dc__law_order pm__law_order an__law_order cd__law_order ct__law_order), sl__law_order⟩)
    (c__law_order : PySem.W.codeIn K cd__law_order "_law_order" = true)
    (k__law_order : PySem.W.keepIn K (.ref f__law_order) = true)
    (a_law : PySem.W.nsIn K mainGlobals "law" = some (some (.ref f_law)))
    (l_law : K.lookup f_law = some ⟨oc_law, od_law, .func (PySem.W.fnOf "law" "law" (defArgs s_law) (defBody s_law) (defScope s_law) .none kV_law dc_law pm_law an_law cd_law ct_law), sl_law⟩)
    (c_law : PySem.W.codeIn K cd_law "law" = true)
    (k_law : PySem.W.keepIn K (.ref f_law) = true)
    (z_abs : PySem.W.nsIn K mainGlobals "abs" = some none)
    (z_bool : PySem.W.nsIn K mainGlobals "bool" = some none)
    (z_int : PySem.W.nsIn K mainGlobals "int" = some none)
    (z_isinstance : PySem.W.nsIn K mainGlobals "isinstance" = some none)
    (z_len : PySem.W.nsIn K mainGlobals "len" = some none)
    (z_list : PySem.W.nsIn K mainGlobals "list" = some none)
    (z_max : PySem.W.nsIn K mainGlobals "max" = some none)
    (z_min : PySem.W.nsIn K mainGlobals "min" = some none)
    (z_range : PySem.W.nsIn K mainGlobals "range" = some none)
    (z_sorted : PySem.W.nsIn K mainGlobals "sorted" = some none)
    : ∃ fd : FuncData, (∀ (s : Shared) (v : Value), BindsTo s fd ⟨[v], []⟩ [("_law_script", v)]) ∧ ∀ base : Heap, K.In base → base.Ns mainGlobals mg → FnOk l.prog w K mg base CX0 17 fa fd ["_law_script"] (sp_law K) := by
  have e := hfa.symm.trans (PySem.W.mg_of X G a_law)
  cases e
  have F_sides := fun_mk (st := s_sides) l_sides c_sides k_sides
  have F_ties := fun_mk (st := s_ties) l_ties c_ties k_ties
  have F_how_many := fun_mk (st := s_how_many) l_how_many c_how_many k_how_many
  have F_number_of := fun_mk (st := s_number_of) l_number_of c_number_of k_number_of
  have F_part_number := fun_mk (st := s_part_number) l_part_number c_part_number k_part_number
  have F_with_middle := fun_mk (st := s_with_middle) l_with_middle c_with_middle k_with_middle
  have F_part_count := fun_mk (st := s_part_count) l_part_count c_part_count k_part_count
  have F__law_flow := fun_mk (st := s__law_flow) l__law_flow c__law_flow k__law_flow
  have F__law_whole := fun_mk (st := s__law_whole) l__law_whole c__law_whole k__law_whole
  have F__law_pair := fun_mk (st := s__law_pair) l__law_pair c__law_pair k__law_pair
  have F__law_ears := fun_mk (st := s__law_ears) l__law_ears c__law_ears k__law_ears
  have F__law_ropes := fun_mk (st := s__law_ropes) l__law_ropes c__law_ropes k__law_ropes
  have F__law_sides := fun_mk (st := s__law_sides) l__law_sides c__law_sides k__law_sides
  have F__law_ties := fun_mk (st := s__law_ties) l__law_ties c__law_ties k__law_ties
  have F__law_beside := fun_mk (st := s__law_beside) l__law_beside c__law_beside k__law_beside
  have F__law_turned := fun_mk (st := s__law_turned) l__law_turned c__law_turned k__law_turned
  have F__law_tied := fun_mk (st := s__law_tied) l__law_tied c__law_tied k__law_tied
  have F__law_middle := fun_mk (st := s__law_middle) l__law_middle c__law_middle k__law_middle
  have F__law_order := fun_mk (st := s__law_order) l__law_order c__law_order k__law_order
  have F_law := fun_mk (st := s_law) l_law c_law k_law
  let T : Env K mg := { a_sides := _, fd_sides := _, F_sides := F_sides, g_sides := PySem.W.mg_of X G a_sides, b_sides := F_sides.binds (ps := ["n"]) fun _ _ _ _ _ _ us hl => match us, hl with | [_], _ => rfl, a_ties := _, fd_ties := _, F_ties := F_ties, g_ties := PySem.W.mg_of X G a_ties, b_ties := F_ties.binds (ps := ["n", "cut"]) fun _ _ _ _ _ _ us hl => match us, hl with | [_, _], _ => rfl, a_how_many := _, fd_how_many := _, F_how_many := F_how_many, g_how_many := PySem.W.mg_of X G a_how_many, b_how_many := F_how_many.binds (ps := ["n"]) fun _ _ _ _ _ _ us hl => match us, hl with | [_], _ => rfl, a_number_of := _, fd_number_of := _, F_number_of := F_number_of, g_number_of := PySem.W.mg_of X G a_number_of, b_number_of := F_number_of.binds (ps := ["n", "cut"]) fun _ _ _ _ _ _ us hl => match us, hl with | [_, _], _ => rfl, a_part_number := _, fd_part_number := _, F_part_number := F_part_number, g_part_number := PySem.W.mg_of X G a_part_number, b_part_number := F_part_number.binds (ps := ["tied", "low", "high"]) fun _ _ _ _ _ _ us hl => match us, hl with | [_, _, _], _ => rfl, a_with_middle := _, fd_with_middle := _, F_with_middle := F_with_middle, g_with_middle := PySem.W.mg_of X G a_with_middle, b_with_middle := F_with_middle.binds (ps := ["low", "middle", "high"]) fun _ _ _ _ _ _ us hl => match us, hl with | [_, _, _], _ => rfl, a_part_count := _, fd_part_count := _, F_part_count := F_part_count, g_part_count := PySem.W.mg_of X G a_part_count, b_part_count := F_part_count.binds (ps := ["low", "high"]) fun _ _ _ _ _ _ us hl => match us, hl with | [_, _], _ => rfl, a__law_flow := _, fd__law_flow := _, F__law_flow := F__law_flow, g__law_flow := PySem.W.mg_of X G a__law_flow, b__law_flow := F__law_flow.binds (ps := ["_law_script", "_law_many"]) fun _ _ _ _ _ _ us hl => match us, hl with | [_, _], _ => rfl, a__law_whole := _, fd__law_whole := _, F__law_whole := F__law_whole, g__law_whole := PySem.W.mg_of X G a__law_whole, b__law_whole := F__law_whole.binds (ps := ["_law_found"]) fun _ _ _ _ _ _ us hl => match us, hl with | [_], _ => rfl, a__law_pair := _, fd__law_pair := _, F__law_pair := F__law_pair, g__law_pair := PySem.W.mg_of X G a__law_pair, b__law_pair := F__law_pair.binds (ps := ["_law_a", "_law_b"]) fun _ _ _ _ _ _ us hl => match us, hl with | [_, _], _ => rfl, a__law_ears := _, fd__law_ears := _, F__law_ears := F__law_ears, g__law_ears := PySem.W.mg_of X G a__law_ears, b__law_ears := F__law_ears.binds (ps := ["_law_n", "_law_row"]) fun _ _ _ _ _ _ us hl => match us, hl with | [_, _], _ => rfl, a__law_ropes := _, fd__law_ropes := _, F__law_ropes := F__law_ropes, g__law_ropes := PySem.W.mg_of X G a__law_ropes, b__law_ropes := F__law_ropes.binds (ps := ["_law_ears_here"]) fun _ _ _ _ _ _ us hl => match us, hl with | [_], _ => rfl, a__law_sides := _, fd__law_sides := _, F__law_sides := F__law_sides, g__law_sides := PySem.W.mg_of X G a__law_sides, b__law_sides := F__law_sides.binds (ps := ["_law_n"]) fun _ _ _ _ _ _ us hl => match us, hl with | [_], _ => rfl, a__law_ties := _, fd__law_ties := _, F__law_ties := F__law_ties, g__law_ties := PySem.W.mg_of X G a__law_ties, b__law_ties := F__law_ties.binds (ps := ["_law_n", "_law_cut"]) fun _ _ _ _ _ _ us hl => match us, hl with | [_, _], _ => rfl, a__law_beside := _, fd__law_beside := _, F__law_beside := F__law_beside, g__law_beside := PySem.W.mg_of X G a__law_beside, b__law_beside := F__law_beside.binds (ps := ["_law_n", "_law_all_ties", "_law_a", "_law_b"]) fun _ _ _ _ _ _ us hl => match us, hl with | [_, _, _, _], _ => rfl, a__law_turned := _, fd__law_turned := _, F__law_turned := F__law_turned, g__law_turned := PySem.W.mg_of X G a__law_turned, b__law_turned := F__law_turned.binds (ps := ["_law_n", "_law_cut", "_law_rope"]) fun _ _ _ _ _ _ us hl => match us, hl with | [_, _, _], _ => rfl, a__law_tied := _, fd__law_tied := _, F__law_tied := F__law_tied, g__law_tied := PySem.W.mg_of X G a__law_tied, b__law_tied := F__law_tied.binds (ps := ["_law_low", "_law_high", "_law_cut"]) fun _ _ _ _ _ _ us hl => match us, hl with | [_, _, _], _ => rfl, a__law_middle := _, fd__law_middle := _, F__law_middle := F__law_middle, g__law_middle := PySem.W.mg_of X G a__law_middle, b__law_middle := F__law_middle.binds (ps := ["_law_low", "_law_high", "_law_cut"]) fun _ _ _ _ _ _ us hl => match us, hl with | [_, _, _], _ => rfl, a__law_order := _, fd__law_order := _, F__law_order := F__law_order, g__law_order := PySem.W.mg_of X G a__law_order, b__law_order := F__law_order.binds (ps := ["_law_low", "_law_high", "_law_one", "_law_other"]) fun _ _ _ _ _ _ us hl => match us, hl with | [_, _, _, _], _ => rfl, a_law := _, fd_law := _, F_law := F_law, g_law := PySem.W.mg_of X G a_law, b_law := F_law.binds (ps := ["_law_script"]) fun _ _ _ _ _ _ us hl => match us, hl with | [_], _ => rfl, m_abs := PySem.W.mg_none_of X G z_abs, m_bool := PySem.W.mg_none_of X G z_bool, m_int := PySem.W.mg_none_of X G z_int, m_isinstance := PySem.W.mg_none_of X G z_isinstance, m_len := PySem.W.mg_none_of X G z_len, m_list := PySem.W.mg_none_of X G z_list, m_max := PySem.W.mg_none_of X G z_max, m_min := PySem.W.mg_none_of X G z_min, m_range := PySem.W.mg_none_of X G z_range, m_sorted := PySem.W.mg_none_of X G z_sorted }
  exact ⟨PySem.W.fnOf "law" "law" (defArgs s_law) (defBody s_law) (defScope s_law) .none kV_law dc_law pm_law an_law cd_law ct_law, fun s v => .of_eq rfl, fun base _ _ => ok_law T⟩
end
end My
open PySem PySem.W PyProof.Rows
set_option maxRecDepth 100000 in
set_option maxHeartbeats 0 in
theorem PySem.Challenge.cw_postmead_k15_numbers_in_order_holds : PySem.Challenge.rw_postmead_k15_numbers_in_order.Holds := by
  w_on; o_law; k_head; (case hw => w_witness2)
  k_fill
  refine L2.walk_of (l := PySem.Challenge.rw_postmead_k15_numbers_in_order) (n := 63) (k := 17) (x := "_law_script") (CX := fun _ => L2.CX0) (sp := fun w => My.sp_law _) rfl (by decide) rfl ⟨rfl, by decide, by decide⟩ (fun w h Y => PySem.W.kIn_of Y) ?F (fun _ _ a ns hl _ hS => ⟨a, ns, rfl, hS, hl, fun _ => rfl⟩) (fun _ _ _ _ _ h => h)
  case F =>
    intro w mg fa h KX G hmg
    refine' My.all_mk KX G hmg ?a_sides ?l_sides ?c_sides ?k_sides ?a_ties ?l_ties ?c_ties ?k_ties ?a_how_many ?l_how_many ?c_how_many ?k_how_many ?a_number_of ?l_number_of ?c_number_of ?k_number_of ?a_part_number ?l_part_number ?c_part_number ?k_part_number ?a_with_middle ?l_with_middle ?c_with_middle ?k_with_middle ?a_part_count ?l_part_count ?c_part_count ?k_part_count ?a__law_flow ?l__law_flow ?c__law_flow ?k__law_flow ?a__law_whole ?l__law_whole ?c__law_whole ?k__law_whole ?a__law_pair ?l__law_pair ?c__law_pair ?k__law_pair ?a__law_ears ?l__law_ears ?c__law_ears ?k__law_ears ?a__law_ropes ?l__law_ropes ?c__law_ropes ?k__law_ropes ?a__law_sides ?l__law_sides ?c__law_sides ?k__law_sides ?a__law_ties ?l__law_ties ?c__law_ties ?k__law_ties ?a__law_beside ?l__law_beside ?c__law_beside ?k__law_beside ?a__law_turned ?l__law_turned ?c__law_turned ?k__law_turned ?a__law_tied ?l__law_tied ?c__law_tied ?k__law_tied ?a__law_middle ?l__law_middle ?c__law_middle ?k__law_middle ?a__law_order ?l__law_order ?c__law_order ?k__law_order ?a_law ?l_law ?c_law ?k_law ?z_abs ?z_bool ?z_int ?z_isinstance ?z_len ?z_list ?z_max ?z_min ?z_range ?z_sorted
    (case a_sides => k_is)
    (case l_sides => k_is)
    (case c_sides => k_is)
    (case k_sides => k_is)
    (case a_ties => k_is)
    (case l_ties => k_is)
    (case c_ties => k_is)
    (case k_ties => k_is)
    (case a_how_many => k_is)
    (case l_how_many => k_is)
    (case c_how_many => k_is)
    (case k_how_many => k_is)
    (case a_number_of => k_is)
    (case l_number_of => k_is)
    (case c_number_of => k_is)
    (case k_number_of => k_is)
    (case a_part_number => k_is)
    (case l_part_number => k_is)
    (case c_part_number => k_is)
    (case k_part_number => k_is)
    (case a_with_middle => k_is)
    (case l_with_middle => k_is)
    (case c_with_middle => k_is)
    (case k_with_middle => k_is)
    (case a_part_count => k_is)
    (case l_part_count => k_is)
    (case c_part_count => k_is)
    (case k_part_count => k_is)
    (case a__law_flow => k_is)
    (case l__law_flow => k_is)
    (case c__law_flow => k_is)
    (case k__law_flow => k_is)
    (case a__law_whole => k_is)
    (case l__law_whole => k_is)
    (case c__law_whole => k_is)
    (case k__law_whole => k_is)
    (case a__law_pair => k_is)
    (case l__law_pair => k_is)
    (case c__law_pair => k_is)
    (case k__law_pair => k_is)
    (case a__law_ears => k_is)
    (case l__law_ears => k_is)
    (case c__law_ears => k_is)
    (case k__law_ears => k_is)
    (case a__law_ropes => k_is)
    (case l__law_ropes => k_is)
    (case c__law_ropes => k_is)
    (case k__law_ropes => k_is)
    (case a__law_sides => k_is)
    (case l__law_sides => k_is)
    (case c__law_sides => k_is)
    (case k__law_sides => k_is)
    (case a__law_ties => k_is)
    (case l__law_ties => k_is)
    (case c__law_ties => k_is)
    (case k__law_ties => k_is)
    (case a__law_beside => k_is)
    (case l__law_beside => k_is)
    (case c__law_beside => k_is)
    (case k__law_beside => k_is)
    (case a__law_turned => k_is)
    (case l__law_turned => k_is)
    (case c__law_turned => k_is)
    (case k__law_turned => k_is)
    (case a__law_tied => k_is)
    (case l__law_tied => k_is)
    (case c__law_tied => k_is)
    (case k__law_tied => k_is)
    (case a__law_middle => k_is)
    (case l__law_middle => k_is)
    (case c__law_middle => k_is)
    (case k__law_middle => k_is)
    (case a__law_order => k_is)
    (case l__law_order => k_is)
    (case c__law_order => k_is)
    (case k__law_order => k_is)
    (case a_law => k_is)
    (case l_law => k_is)
    (case c_law => k_is)
    (case k_law => k_is)
    (case z_abs => k_is)
    (case z_bool => k_is)
    (case z_int => k_is)
    (case z_isinstance => k_is)
    (case z_len => k_is)
    (case z_list => k_is)
    (case z_max => k_is)
    (case z_min => k_is)
    (case z_range => k_is)
    (case z_sorted => k_is)
#print axioms PySem.Challenge.cw_postmead_k15_numbers_in_order_holds
