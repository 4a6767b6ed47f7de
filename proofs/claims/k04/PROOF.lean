import PyProof.Rows.All
import Wide.All
import OpenK.AllK
import Wide.FinOn
import HandS.ForMost
import HandS.ForExc
import HandS.Wide
import HandS.Gcd
import HandS.IsInst
import HandS.ExcIs
import HandS.Codes
import KE.SortData
import KE.KDictKeyed
import KE.KDictCopyH
import KE.KDictSum
import KE.DataCmp
import HandS.TupAny
import HandS.Conv
import PySem.Challenge.RW_postmead_k04_letters_added
set_option Elab.async false
set_option linter.all false
set_option maxRecDepth 100000
set_option maxHeartbeats 4000000
namespace My
open PySem PySem.Spec PyProof.Rows L2
/-! ### readings: small steps -/
local macro_rules | `(tactic| walk_at "rd") => `(tactic| repeat (first
  | refine ⟨_, rfl, ?_⟩
  | refine ⟨_, _, rfl, rfl, ?_⟩
  | refine ⟨.inr ⟨by decide, by decide⟩, ?_⟩
  | refine ⟨by decide, ?_⟩))
theorem op_fdivX {X : Cx} : OpR X (binaryOp .FloorDiv) (rI (fun _ j => j ≠ 0 ∧ j.natAbs.log2 < 9000) fun i j => .int (i.fdiv j)) :=
  opI fun _ _ _ _ _ _ _ hc q => floordiv_int hc.1 q (.inl (PyProof.noPylong_of_log2 hc.2))
theorem op_mulU {X : Cx} : OpR X (binaryOp .Mult) (rI IntMulOk fun i j => .int (i * j)) := opI fun _ _ _ _ _ _ _ hc q => mul_int q hc
theorem mulL {i j : Int} (h0 : -(2 ^ 64) < i) (h1 : i < 2 ^ 64) : IntMulOk i j := CMul.ok (.inl ⟨h0, h1⟩)
theorem mulR {i j : Int} (h0 : -(2 ^ 64) < j) (h1 : j < 2 ^ 64) : IntMulOk i j := CMul.ok (.inr ⟨h0, h1⟩)
theorem nd {p : Prop} [Decidable p] (h : ¬ decide p = true) : ¬ p := fun hp => h (decide_eq_true hp)
theorem zc_of {cls : Value} {d : Option Addr} {C : Addr} {oe : Obj} (h : Zc cls d oe) (e : cls = .ref C ∧ d = none) : Zc (.ref C) none oe := by
  obtain ⟨e1, e2⟩ := e
  rw [← e1, ← e2]
  exact h
theorem same_new {H : Hp} {p : Addr} {o : HO} (h : H p = none) : Same H (upd H p o) := fun b x e => by
  rw [upd_ne (ne_of_none e h)]
  exact e
theorem same_put {H H' : Hp} {p : Addr} {o : HO} (s : Same H H') (h : H p = none) : Same H (upd H' p o) := fun b x e => by
  rw [upd_ne (ne_of_none e h)]
  exact s _ _ e
theorem log_small {n b : Nat} (h0 : 0 < b) (h : n < 2 ^ b) (h9 : b ≤ 9000) : n.log2 < 9000 := Nat.lt_of_lt_of_le (PySem.Flt.log2_lt_of h0 h) h9
theorem pss_guard {X : Cx} {b : List Stmt} {t : TS} {P : Prop} (h : P → PSs X b t) : PSs X b (fun D σ H => P ∧ t D σ H) :=
  ⟨fun pins s σ H D I q => (h q.1).run pins s σ H D I q.2⟩
def topS (i : Nat) : Stmt := PySem.Challenge.pw_postmead_k04_letters_added.main.body.getD i (.Pass ⟨0, 0, 0, 0⟩)
abbrev s_pair_of : Stmt := topS 1
theorem sc_pair_of : FnScope ["a", "b"] ["a", "b"] (defScope s_pair_of) := ⟨rfl, rfl, rfl, by decide +kernel, rfl, by decide +kernel, by decide +kernel⟩
abbrev s_letter : Stmt := topS 3
theorem sc_letter : FnScope ["a", "b"] ["a", "b"] (defScope s_letter) := ⟨rfl, rfl, rfl, by decide +kernel, rfl, by decide +kernel, by decide +kernel⟩
abbrev s_sum_plus : Stmt := topS 4
theorem sc_sum_plus : FnScope ["one", "other"] ["one", "other"] (defScope s_sum_plus) := ⟨rfl, rfl, rfl, by decide +kernel, rfl, by decide +kernel, by decide +kernel⟩
abbrev s_gathered : Stmt := topS 5
theorem sc_gathered : FnScope ["pairs", "totals", "key", "number"] ["pairs"] (defScope s_gathered) := ⟨rfl, rfl, rfl, by decide +kernel, rfl, by decide +kernel, by decide +kernel⟩
abbrev s__law_flow : Stmt := topS 7
theorem sc__law_flow : FnScope ["_law_script", "_law_many", "_law_great", "_law_row", "_law_k", "_law_cell", "_law_mixed"] ["_law_script", "_law_many"] (defScope s__law_flow) := ⟨rfl, rfl, rfl, by decide +kernel, rfl, by decide +kernel, by decide +kernel⟩
abbrev s__law_whole : Stmt := topS 8
theorem sc__law_whole : FnScope ["_law_found"] ["_law_found"] (defScope s__law_whole) := ⟨rfl, rfl, rfl, by decide +kernel, rfl, by decide +kernel, by decide +kernel⟩
abbrev s__law_tuple : Stmt := topS 9
theorem sc__law_tuple : FnScope ["_law_found", "_law_many", "_law_one"] ["_law_found", "_law_many"] (defScope s__law_tuple) := ⟨rfl, rfl, rfl, by decide +kernel, rfl, by decide +kernel, by decide +kernel⟩
abbrev s__law_sum : Stmt := topS 10
theorem sc__law_sum : FnScope ["_law_found", "_law_term", "_law_one", "_law_k"] ["_law_found"] (defScope s__law_sum) := ⟨rfl, rfl, rfl, by decide +kernel, rfl, by decide +kernel, by decide +kernel⟩
abbrev s__law_row_times : Stmt := topS 11
theorem sc__law_row_times : FnScope ["_law_one", "_law_other", "_law_powers", "_law_mark", "_law_power"] ["_law_one", "_law_other"] (defScope s__law_row_times) := ⟨rfl, rfl, rfl, by decide +kernel, rfl, by decide +kernel, by decide +kernel⟩
abbrev s__law_settled : Stmt := topS 12
theorem sc__law_settled : FnScope ["_law_terms", "_law_counts", "_law_row", "_law_count"] ["_law_terms"] (defScope s__law_settled) := ⟨rfl, rfl, rfl, by decide +kernel, rfl, by decide +kernel, by decide +kernel⟩
abbrev s__law_draw_sum : Stmt := topS 13
theorem sc__law_draw_sum : FnScope ["_law_row", "_law_terms", "_law_marks", "_law_made", "_law_k", "_law_powers", "_law_i", "_law_one", "_law_a", "_law_b"] ["_law_row", "_law_terms", "_law_marks"] (defScope s__law_draw_sum) := ⟨rfl, rfl, rfl, by decide +kernel, rfl, by decide +kernel, by decide +kernel⟩
abbrev s_law : Stmt := topS 14
theorem sc_law : FnScope ["_law_script", "_law_row", "_law_one", "_law_other", "_law_handed", "_law_made", "_law_a", "_law_b", "_law_due", "_law_first", "_law_second", "_law_term"] ["_law_script"] (defScope s_law) := ⟨rfl, rfl, rfl, by decide +kernel, rfl, by decide +kernel, by decide +kernel⟩
structure Env (K : PySem.W.Frag) (mg : Str → Option Value) where
  a_pair_of : Addr
  fd_pair_of : FuncData
  F_pair_of : Fun K "pair_of" "pair_of" s_pair_of a_pair_of fd_pair_of
  g_pair_of : mg "pair_of" = some (.ref a_pair_of)
  b_pair_of : Binds K fd_pair_of ["a", "b"] []
  a_letter : Addr
  fd_letter : FuncData
  F_letter : Fun K "letter" "letter" s_letter a_letter fd_letter
  g_letter : mg "letter" = some (.ref a_letter)
  b_letter : Binds K fd_letter ["a", "b"] []
  a_sum_plus : Addr
  fd_sum_plus : FuncData
  F_sum_plus : Fun K "sum_plus" "sum_plus" s_sum_plus a_sum_plus fd_sum_plus
  g_sum_plus : mg "sum_plus" = some (.ref a_sum_plus)
  b_sum_plus : Binds K fd_sum_plus ["one", "other"] []
  a_gathered : Addr
  fd_gathered : FuncData
  F_gathered : Fun K "gathered" "gathered" s_gathered a_gathered fd_gathered
  g_gathered : mg "gathered" = some (.ref a_gathered)
  b_gathered : Binds K fd_gathered ["pairs"] []
  a__law_flow : Addr
  fd__law_flow : FuncData
  F__law_flow : Fun K "_law_flow" "_law_flow" s__law_flow a__law_flow fd__law_flow
  g__law_flow : mg "_law_flow" = some (.ref a__law_flow)
  b__law_flow : Binds K fd__law_flow ["_law_script", "_law_many"] []
  a__law_whole : Addr
  fd__law_whole : FuncData
  F__law_whole : Fun K "_law_whole" "_law_whole" s__law_whole a__law_whole fd__law_whole
  g__law_whole : mg "_law_whole" = some (.ref a__law_whole)
  b__law_whole : Binds K fd__law_whole ["_law_found"] []
  a__law_tuple : Addr
  fd__law_tuple : FuncData
  F__law_tuple : Fun K "_law_tuple" "_law_tuple" s__law_tuple a__law_tuple fd__law_tuple
  g__law_tuple : mg "_law_tuple" = some (.ref a__law_tuple)
  b__law_tuple : Binds K fd__law_tuple ["_law_found", "_law_many"] []
  a__law_sum : Addr
  fd__law_sum : FuncData
  F__law_sum : Fun K "_law_sum" "_law_sum" s__law_sum a__law_sum fd__law_sum
  g__law_sum : mg "_law_sum" = some (.ref a__law_sum)
  b__law_sum : Binds K fd__law_sum ["_law_found"] []
  a__law_row_times : Addr
  fd__law_row_times : FuncData
  F__law_row_times : Fun K "_law_row_times" "_law_row_times" s__law_row_times a__law_row_times fd__law_row_times
  g__law_row_times : mg "_law_row_times" = some (.ref a__law_row_times)
  b__law_row_times : Binds K fd__law_row_times ["_law_one", "_law_other"] []
  a__law_settled : Addr
  fd__law_settled : FuncData
  F__law_settled : Fun K "_law_settled" "_law_settled" s__law_settled a__law_settled fd__law_settled
  g__law_settled : mg "_law_settled" = some (.ref a__law_settled)
  b__law_settled : Binds K fd__law_settled ["_law_terms"] []
  a__law_draw_sum : Addr
  fd__law_draw_sum : FuncData
  F__law_draw_sum : Fun K "_law_draw_sum" "_law_draw_sum" s__law_draw_sum a__law_draw_sum fd__law_draw_sum
  g__law_draw_sum : mg "_law_draw_sum" = some (.ref a__law_draw_sum)
  b__law_draw_sum : Binds K fd__law_draw_sum ["_law_row", "_law_terms", "_law_marks"] []
  a_law : Addr
  fd_law : FuncData
  F_law : Fun K "law" "law" s_law a_law fd_law
  g_law : mg "law" = some (.ref a_law)
  b_law : Binds K fd_law ["_law_script"] []
  m_abs : mg "abs" = none
  m_bool : mg "bool" = none
  m_int : mg "int" = none
  m_isinstance : mg "isinstance" = none
  m_len : mg "len" = none
  m_list : mg "list" = none
  m_max : mg "max" = none
  m_min : mg "min" = none
  m_range : mg "range" = none
  m_sorted : mg "sorted" = none
  m_tuple : mg "tuple" = none
section
variable {P : Program} {w : World} {K : PySem.W.Frag} {mg : Str → Option Value} {base : Heap}

/-! ### the row of numbers that the script makes -/
def rowOk (rs : List Int) : Prop := ∀ v ∈ rs, 0 ≤ v ∧ v < 1000000
theorem rowOk_nil : rowOk [] := fun _ h => by cases h
theorem rowOk_add {rs : List Int} {v : Int} (h : rowOk rs) (h0 : 0 ≤ v) (h1 : v < 1000000) : rowOk (rs ++ [v]) := fun x hx => by
  rcases List.mem_append.mp hx with q | q
  · exact h x q
  · rw [List.mem_singleton.mp q]
    exact ⟨h0, h1⟩
def sp_flow (K : PySem.W.Frag) : Sp := fun vs H Q _ => ∃ (a : Addr) (ns : List Int) (m : Int), vs = [.ref a, .int m] ∧ SqL K H a (ns.map V.int) ∧ ns.length ≤ 63 ∧ 0 ≤ m ∧ m ≤ 1000 ∧
  ∀ H' p (rs : List Int), Same H H' → H p = none → rs.length = m.toNat → rowOk rs → H' p = some (.lst (rs.map V.int)) → Q (.ref p) H'
def flowInv (a : Addr) (m : Int) (p : Addr) (H : Hp) : Nat → L2.St → Hp → Prop := fun i σ H' => ∃ (g : Int) (rs : List Int) (k c x : Option V),
  σ = [some (.ref a), some (.int m), some (.int g), some (.ref p), k, c, x] ∧ Same H H' ∧ H' p = some (.lst (rs.map V.int)) ∧ rs.length = i ∧ rowOk rs
theorem mod_in (x : Int) : 0 ≤ x % 1000000 ∧ x % 1000000 < 1000000 := ⟨Int.emod_nonneg _ (by decide), Int.emod_lt_of_pos _ (by decide)⟩
theorem flow_turn {a p : Addr} {m g z : Int} {H H' : Hp} {i : Nat} {rs : List Int} {k c x : Option V} (hs : Same H H') (hp : H p = none) (hrl : rs.length = i) (hro : rowOk rs) :
    flowInv a m p H (i + 1) [some (.ref a), some (.int m), some (.int g), some (.ref p), k, c, x] (upd H' p (.lst (rs.map V.int ++ [V.int (z % 1000000)]))) := by
  refine ⟨g, rs ++ [z % 1000000], k, c, x, rfl, same_put hs hp, ?_, by rw [List.length_append, hrl]; rfl, rowOk_add hro (mod_in z).1 (mod_in z).2⟩
  rw [upd_same, List.map_append]; rfl
theorem mod_at {ns : List Int} (h : 0 < ns.length) (k : Nat) : ∃ z, atI (ns.map V.int) ((k : Int) % (ns.length : Int)) = some (.int z) := by
  have hk : k % ns.length < ns.length := Nat.mod_lt _ h
  refine ⟨ns[k % ns.length], ?_⟩
  rw [← Int.natCast_emod]
  refine atI_nat ?_
  rw [List.getElem?_map, List.getElem?_eq_getElem hk]
  rfl
theorem ok__law_flow (T : Env K mg) : FnOk P w K mg base CX0 1 T.a__law_flow T.fd__law_flow ["_law_script", "_law_many"] (sp_flow K) := by
  refine T.F__law_flow.ok sc__law_flow (fun vs H Q E h => ?_) (fun cdv A outer s H vs Q E hr h => ?_)
  · obtain ⟨a, ns, m, rfl, _⟩ := h
    rfl
  · obtain ⟨a, ns, m, rfl, hS, hl, hm0, hm1, q⟩ := h
    refine ⟨_, (pss_cons (ps_set (i := 2) sc__law_flow.nd rfl (.inl rfl) pe_int)
 (C8.pss_cut (ps_if (PW.pt (pw_and (pt_cmpR op_gt (pe_callB call_len_seq (by rfl) T.m_len (by decide +kernel) (pa_cons (pv 0) pa_nil)) pe_int (nomark _)) (pw_and1 (pt_cmpR op_ge (pe_callB call_abs (by rfl) T.m_abs (by decide +kernel) (pa_cons (pe_ix ix_list (pv 0) pe_int (fun _ _ => rfl)) pa_nil)) (pe_op op_pow pe_int pe_int) (nomark _)))))
 (pss_one (ps_set (i := 2) sc__law_flow.nd rfl (.inl rfl) (pe_op op_sub (pe_callB call_abs (by rfl) T.m_abs (by decide +kernel) (pa_cons (pe_ix ix_list (pv 0) pe_int (fun _ _ => rfl)) pa_nil)) (pe_op op_pow pe_int pe_int))))
 pss_nil)
 (pss_cons (ps_set (i := 3) sc__law_flow.nd rfl (.inl rfl) (pe_lst pa_nil))
 (pss_cons (ps_for PassesOwn.never rfl (pi_range1 (by rfl) T.m_range (pa_cons (pv 1) pa_nil)) (pg_name (i := 4) sc__law_flow.nd rfl (.inl rfl))
 (pss_one (ps_if (pt_cmpR op_gt (pv 2) pe_int (nomark _))
 (pss_cons (ps_expr (pe_bm PySem.F.plainAttrs_list PySem.F.slot_list_append PySem.F.type_list_append mt_append (pv 3) (pa_cons (pe_op op_mod (pv 2) pe_int) pa_nil)))
 (pss_one (ps_set (i := 2) sc__law_flow.nd rfl (.inl rfl) (pe_op op_fdiv (pv 2) pe_int))))
 (pss_cons (ps_set (i := 5) sc__law_flow.nd rfl (.inl rfl) (pe_op op_add (pv 4) pe_int))
 (C8.pss_cut (ps_if (pt_cmpR op_gt (pe_callB call_len_seq (by rfl) T.m_len (by decide +kernel) (pa_cons (pv 0) pa_nil)) pe_int (nomark _))
 (pss_one (ps_set (i := 5) sc__law_flow.nd rfl (.inl rfl) (pe_ix ix_list (pv 0) (pe_op op_mod (pv 4) (pe_callB call_len_seq (by rfl) T.m_len (by decide +kernel) (pa_cons (pv 0) pa_nil))) (fun _ _ => rfl))))
 pss_nil)
 (pss_cons (ps_set (i := 6) sc__law_flow.nd rfl (.inl rfl) (pe_op op_mod (pe_op op_add (pe_op op_add (pe_op op_mulU (pv 5) pe_int) (pe_op op_mulU (pv 4) pe_int)) pe_int) pe_int))
 (pss_cons (ps_set (i := 6) sc__law_flow.nd rfl (.inl rfl) (pe_op op_mod (pe_op op_add (pe_op op_add (pe_op op_mulU (pv 6) pe_int) (pe_op op_mulU (pv 4) pe_int)) (pe_callB call_len_seq (by rfl) T.m_len (by decide +kernel) (pa_cons (pv 0) pa_nil))) pe_int))
 (pss_one (ps_expr (pe_bm PySem.F.plainAttrs_list PySem.F.slot_list_append PySem.F.type_list_append mt_append (pv 3) (pa_cons (pe_op op_mod (pe_op op_fdiv (pv 6) pe_int) pe_int) pa_nil)))))))))))
 (pss_one (ps_ret (pv 3))))))), ?_⟩
    have hlen : (ns.map V.int).length = ns.length := List.length_map _
    refine ⟨fun σ' H' => ∃ g : Int, σ' = [some (.ref a), some (.int m), some (.int g), none, none, none, none] ∧ H = H', ?_, ?_⟩
    · refine ⟨_, rfl, _, _, rfl, .inl hS, _, _, rfl, rfl, _, rfl, ite2 (fun hd => ?_) (fun _ => ⟨_, rfl, rfl⟩)⟩
      have h0 : 0 < ns.length := by
        have := of_decide_eq_true hd
        rw [hlen] at this
        omega
      obtain ⟨z, hz⟩ := mod_at h0 0
      have hz0 : atI (ns.map V.int) 0 = some (.int z) := by
        have e : ((0 : Nat) : Int) % (ns.length : Int) = 0 := by simp
        rw [e] at hz
        exact hz
      refine ⟨_, rfl, a, _, _, _, rfl, rfl, hS, hz0, _, rfl, _, _, rfl, rfl, ⟨by decide, by decide, by decide⟩, _, _, rfl, rfl, _, rfl, ?_⟩
      refine ite2 (fun _ => ?_) (fun _ => ⟨_, rfl, rfl⟩)
      exact ⟨_, rfl, a, _, _, _, rfl, rfl, hS, hz0, _, rfl, _, _, rfl, rfl, ⟨by decide, by decide, by decide⟩, _, _, rfl, rfl, _, rfl, rfl⟩
    · rintro _ _ ⟨g, rfl, rfl⟩
      refine ⟨Nat.zero_le _, fun p hp => ?_⟩
      refine ⟨_, rfl, m, rfl, by omega, by omega, for_range (lo := 0) (n := m.toNat) (flowInv a m p H) ⟨g, [], none, none, none, rfl, same_new hp, upd_same, rfl, rowOk_nil⟩ ?_ ?_⟩
      · rintro i σ H' hi ⟨g, rs, k, c, x, rfl, hs, hpl, hrl, hro⟩
        have hA := hs.seq hS
        have hsz : (rs.map V.int).length < sizeLine := by rw [List.length_map]; exact small1000 (by omega)
        refine ⟨_, rfl, _, _, rfl, rfl, _, rfl, ite2 (fun _ => ?_) (fun _ => ?_)⟩
        · refine ⟨_, rfl, .inl ⟨rfl, _, .inl (.inl hpl)⟩, _, rfl, _, _, rfl, rfl, (by show (0 : Int) < _; decide), p, _, _, rfl, rfl, hpl, hsz, ?_⟩
          refine ⟨_, rfl, _, _, rfl, rfl, ⟨by decide, by decide⟩, ?_⟩
          exact flow_turn hs hp hrl hro
        · refine ⟨_, rfl, _, _, rfl, rfl, ?_⟩
          refine ⟨fun σ' H2 => ∃ cell : Int, σ' = [some (.ref a), some (.int m), some (.int g), some (.ref p), some (.int (0 + (i : Int))), some (.int cell), x] ∧ H' = H2, ?_, ?_⟩
          · refine ⟨_, rfl, _, _, rfl, .inl hA, _, _, rfl, rfl, _, rfl, ite2 (fun hd => ?_) (fun _ => ⟨_, rfl, rfl⟩)⟩
            have h0 : 0 < ns.length := by
              have := of_decide_eq_true hd
              rw [hlen] at this
              omega
            obtain ⟨z, hz⟩ := mod_at h0 i
            refine ⟨_, rfl, _, rfl, _, rfl, _, _, rfl, .inl hA, _, _, rfl, rfl, (by rw [hlen]; omega), a, _, _, .int z, rfl, rfl, hA, ?_, ⟨z, rfl, rfl⟩⟩
            rw [hlen, Int.zero_add]
            exact hz
          · rintro _ _ ⟨cell, rfl, rfl⟩
            refine ⟨_, rfl, _, _, rfl, rfl, mulR (by decide) (by decide), _, rfl, _, _, rfl, rfl, mulR (by decide) (by decide), _, _, rfl, rfl, _, _, rfl, rfl, _, _, rfl, rfl, (by show (0 : Int) < _; decide), ?_⟩
            refine ⟨_, rfl, _, _, rfl, rfl, mulR (by decide) (by decide), _, rfl, _, _, rfl, rfl, mulR (by decide) (by decide), _, _, rfl, rfl, _, rfl, _, _, rfl, .inl hA, _, _, rfl, rfl, _, _, rfl, rfl, (by show (0 : Int) < _; decide), ?_⟩
            refine ⟨_, rfl, .inl ⟨rfl, _, .inl (.inl hpl)⟩, _, rfl, _, _, rfl, rfl, ⟨by decide, by decide⟩, _, _, rfl, rfl, (by show (0 : Int) < _; decide), p, _, _, rfl, rfl, hpl, hsz, ?_⟩
            exact flow_turn hs hp hrl hro
      · rintro σ H' ⟨g, rs, k, c, x, rfl, hs, hpl, hrl, hro⟩
        exact ⟨_, rfl, q H' p rs hs hp hrl hro hpl⟩

/-! ### sorting of tuples, an empty one among them -/
section
open PySem.SeqAt PySem.W PySem.Calls
theorem call_tuple_lt {A : Around} {s : Shared} {prog : Program} {w : World} {E : Value → Shared → Prop} {Q : Value → Shared → Prop} {l b : Addr} {items items2 : Array Value} {e r : Nat → Bool} (hl : s.heap.IsTuple l items) (hb : s.heap.IsTuple b items2)
    (he : ∀ j (h1 : j < items.size) (h2 : j < items2.size), EqAt A.in1 s items[j] items2[j] (e j)) (hr : ∀ j (h1 : j < items.size) (h2 : j < items2.size), e j = false → RcLt A.in1 s items[j] items2[j] (r j))
    (h : Q (.bool (firstLt e r (decide (items.size < items2.size)) (List.range (min items.size items2.size)))) s) : wpAny (model prog w) A (call (.builtin "tuple.__lt__") [.ref l, .ref b]) Q E s := by
  obtain ⟨⟨cls, dd, data, sl⟩, ho, hc, n, hd⟩ := id hl
  obtain ⟨⟨cls2, dd2, data2, sl2⟩, ho2, hc2, n2, hd2⟩ := id hb
  simp only at hc hd hc2 hd2
  subst hc hd hc2 hd2
  exact call_meets F.slot_tuple_lt ⟨_, ho, rfl⟩ F.entry_tuple_lt (F.args_tuple_lt_2 _ _) (PySem.SeqAt.tuple_ltAt l b items items2 n n2 dd dd2 sl sl2 e r) ⟨ho, ho2, he, hr, h⟩
theorem oneLt_tuple {prog : Program} {w : World} {A : Around} {E : Value → Shared → Prop} {s : Shared} {xs ys : List PyData} {a b : Value} {as bs : List Addr} {Q : Bool → Shared → Prop} (ra : Reads s.heap a (.tuple xs) as) (rb : Reads s.heap b (.tuple ys) bs) (h : alike (.tuple xs) (.tuple ys) = true)
    (hu : A.units + min (PyData.tuple xs).depth (PyData.tuple ys).depth < cLine) (hq : Q (dataLt (.tuple xs) (.tuple ys)) s) : wpAny (model prog w) A (oneLt' true a b) Q E s := by
  have hal : alikeAll xs ys = true := by simpa [alike] using h
  cases ra with
  | @tuple l o vs n _ as₁ h1 h2 h3 h4 =>
    cases rb with
    | @tuple l' o' vs' n' _ bs₁ k1 k2 k3 k4 =>
      have n1 : vs.size = xs.length := by simpa using ReadsAll.length _ _ _ h4
      have n2 : vs'.size = ys.length := by simpa using ReadsAll.length _ _ _ k4
      rw [dataLt_tuple, ← firstLt_toks xs ys hal, ← n1, ← n2] at hq
      rw [oneLt'_eq]
      simp only [if_true]
      refine wpAny_bind (wpAny_cRoomFor (room_here hu) ?_)
      refine wpAny_bind (wpAny_callSpecialIfBound?_slot (T := "tuple") ⟨_, h1, h2⟩ F.slot_tuple_lt (call_tuple_lt (e := pairEq xs ys) (r := fun j => dataLt (xs.getD j .none) (ys.getD j .none)) ⟨_, h1, h2, _, h3⟩ ⟨_, k1, k2, _, k3⟩ (fun j j1 j2 => ?_) (fun j j1 j2 hj => ?_) ?_))
      · have := eqAt_alikeAll xs ys A.in1 s vs.toList vs'.toList _ _ h4 k4 hal (room_in hu) j (by simpa using j1) (by simpa using j2)
        simpa using this
      · have := rcLt_alikeAll xs ys A.in1 s vs.toList vs'.toList _ _ h4 k4 hal (room_in hu) j (by simpa using j1) (by simpa using j2) hj
        simpa using this
      · exact wpAny_truthy_bool hq
theorem keyLt_general (x y : Value) : keyLt' general' x y = oneLt' false x y := rfl
def isE : PyData → Bool
  | .tuple [] => true
  | _ => false
theorem isE_iff (d : PyData) : isE d = true ↔ d = .tuple [] := by
  constructor
  · intro h
    unfold isE at h
    split at h
    · rfl
    · cases h
  · rintro rfl; rfl
/-- the first items of tuples, or none -/
theorem my_firsts {M : Model} {A : Around} {E : Value → Shared → Prop} {s : Shared} : ∀ {vs : List Value} {ds : List PyData}, EachIs (fun v d => ∃ as, Reads s.heap v d as) vs ds → (∀ d ∈ ds, ∃ l, d = .tuple l) →
    ∃ fs : List (Option Value), fs.map (·.isSome) = ds.map (fun d => !isE d) ∧ ∀ Q : List (Option Value) → Shared → Prop, Q fs s → wpAny M A (vs.mapM firstOfTuple') Q E s
  | _, _, .nil, _ => ⟨[], rfl, fun Q h => by rw [List.mapM_nil]; exact wpAny_pure h⟩
  | _, _, .cons (a := v) (as := vs) (b := d) (bs := ds) ⟨as, r⟩ t, ht => by
    obtain ⟨fs, h1, h2⟩ := my_firsts t fun d hd => ht d (List.mem_cons_of_mem _ hd)
    obtain ⟨l, rfl⟩ := ht d (List.mem_cons_self ..)
    cases r with
    | @tuple a o xs n _ _ ho hc hd hr =>
      refine ⟨xs[0]? :: fs, ?_, fun Q h => ?_⟩
      · have hl := ReadsAll.length _ _ _ hr
        rw [Array.length_toList] at hl
        have hq : (xs[0]?).isSome = !isE (PyData.tuple l) := by
          cases l with
          | nil =>
            have : xs[0]? = none := Array.getElem?_eq_none (by rw [hl]; simp)
            rw [this]
            rfl
          | cons x l =>
            have hlt : 0 < xs.size := by rw [hl]; simp
            rw [Array.getElem?_eq_getElem hlt]
            rfl
        rw [List.map_cons, List.map_cons, h1, hq]
      · rw [List.mapM_cons]
        refine wpAny_bind ?_
        rw [kas_first_eq]
        refine wpAny_bind (Looks.here (show Looks M s.heap (typeOf (.ref a)) o.cls from (Looks.ld ho).andThen .now) ?_)
        rw [hc, if_neg (by first | decide | simp)]
        refine wpAny_bind (listItems_at ho hd (wpAny_pure ?_))
        exact wpAny_bind (h2 (fun bs s' => wpAny M A (pure (xs[0]? :: bs)) Q E s') (wpAny_pure h))
/-- tuples that read as alike data can be sorted, also where one is empty -/
theorem SortsAt.tup {prog : Program} {w : World} {A : Around} {s : Shared} {vs : List Value} {ds : List PyData} (e : EachIs (fun v d => ∃ as, Reads s.heap v d as) vs ds) (hal : AllAlike ds) (hk : ∀ d ∈ ds, ∃ l, d = .tuple l) (hu : ∀ d, d ∈ ds → A.units + d.depth < cLine) :
    SortsAt prog w A s (dataKind s.heap ds) vs := by
  by_cases hne : ∀ d ∈ ds, d ≠ .tuple []
  · refine SortsAt.data e hal (.inl fun d hd => ?_) hu
    obtain ⟨l, rfl⟩ := hk d hd
    cases l with
    | nil => exact absurd rfl (hne _ hd)
    | cons x r => exact ⟨x, r, rfl⟩
  have room : ∀ {d d' : PyData}, d ∈ ds → A.units + min d.depth d'.depth < cLine := fun {d d'} hd => Nat.lt_of_le_of_lt (Nat.add_le_add_left (Nat.min_le_left _ _) _) (hu d hd)
  refine ⟨fun v hv => ?_, ?_⟩
  · obtain ⟨d, hd, as, r⟩ := e.left v hv
    exact ⟨_, dataKind_some hal hd r⟩
  -- both kinds ask the tuples' own order
  have gen : PyProof.Rows.H.LtAt prog w A s (dataKind s.heap ds) general' := fun E x y a b Q ha hb hq => by
    obtain ⟨d, as, hd, ra, rfl⟩ := dataKind_inv ha
    obtain ⟨d', as', hd', rb, rfl⟩ := dataKind_inv hb
    rw [keyLt_general]
    obtain ⟨l, rfl⟩ := hk d hd
    exact oneLt_alike (fun h => absurd h Bool.false_ne_true) ra rb (hal _ hd _ hd') (by simp) (room hd) hq
  have one : PyProof.Rows.H.LtAt prog w A s (dataKind s.heap ds) oneType' := fun E x y a b Q ha hb hq => by
    obtain ⟨d, as, hd, ra, rfl⟩ := dataKind_inv ha
    obtain ⟨d', as', hd', rb, rfl⟩ := dataKind_inv hb
    rw [keyLt'_oneType]
    obtain ⟨l, rfl⟩ := hk d hd
    obtain ⟨l', rfl⟩ := hk d' hd'
    exact oneLt_tuple ra rb (hal _ hd _ hd') (room hd) hq
  have notAll : ∀ fs : List (Option Value), fs.map (·.isSome) = ds.map (fun d => !isE d) → (fs.toArray.all fun x => x.isSome) = false := fun fs hf => by
    rw [List.all_toArray]
    have h1 : fs.all (fun x => x.isSome) = (fs.map (·.isSome)).all id := by rw [List.all_map]; rfl
    rw [h1, hf, List.all_map]
    cases hc : ds.all (id ∘ fun d => !isE d) with
    | false => rfl
    | true =>
      refine absurd (fun d hd he => ?_) hne
      have h2 : (!isE d) = true := List.all_eq_true.mp hc d hd
      rw [(isE_iff d).mpr he] at h2
      cases h2
  cases ds with
  | nil => exact absurd (fun d hd => absurd hd (by simp)) hne
  | cons d₀ ds₀ =>
    by_cases h0 : d₀ = .tuple []
    · refine ⟨oneType', one, fun h2 E Q hq => ?_⟩
      obtain ⟨fs, hf, hm⟩ := my_firsts (M := model prog w) (A := A) (E := E) e hk
      rw [kat_kind_eq, List.mapM_toArray, map_eq_pure_bind]
      refine wpAny_bind (wpAny_bind (hm _ (wpAny_pure ?_)))
      rw [if_neg (by rw [notAll fs hf]; exact Bool.false_ne_true)]
      have hf0 : (fs.toArray[0]?.bind id).isSome = false := by
        cases fs with
        | nil => simp at hf
        | cons f fs =>
          rw [List.map_cons, List.map_cons] at hf
          have := (List.cons.inj hf).1
          rw [h0] at this
          have this : f.isSome = false := this
          simpa using this
      rw [if_neg (by rw [hf0]; exact Bool.false_ne_true)]
      rw [oneTypeOnly'_eq, List.mapM_toArray, map_eq_pure_bind]
      have hT : ∀ v ∈ vs, Looks (model prog w) s.heap (typeOf v) (Value.type "tuple") := fun v hv => by
        obtain ⟨d, hd, as, r⟩ := e.left v hv
        obtain ⟨l, rfl⟩ := hk d hd
        exact looks_reads r
      refine wpAny_bind (wpAny_bind (wpAny_bind (kas_mapM (r := Value.type "tuple") _ (fun v hv Q' hq => (hT v hv).here hq) (wpAny_pure ?_))))
      obtain ⟨v₁, vr, rfl⟩ : ∃ v₁ vr, vs = v₁ :: vr := by
        cases e with
        | cons _ _ => exact ⟨_, _, rfl⟩
      have hall : ((List.map (fun _ => Value.type "tuple") (v₁ :: vr)).toArray.all fun x => x == Value.type "tuple") = true := by
        simp only [List.all_toArray, List.all_map, List.all_eq_true]
        intro _ _
        exact beq_self_eq_true _
      have hh : (List.map (fun _ => Value.type "tuple") (v₁ :: vr)).toArray[0]? = some (Value.type "tuple") := by simp
      rw [hh]
      simp only [hall, if_true]
      exact wpAny_pure (wpAny_pure hq)
    · refine ⟨general', gen, fun h2 E Q hq => ?_⟩
      obtain ⟨fs, hf, hm⟩ := my_firsts (M := model prog w) (A := A) (E := E) e hk
      rw [kat_kind_eq, List.mapM_toArray, map_eq_pure_bind]
      refine wpAny_bind (wpAny_bind (hm _ (wpAny_pure ?_)))
      rw [if_neg (by rw [notAll fs hf]; exact Bool.false_ne_true)]
      have hf0 : (fs.toArray[0]?.bind id).isSome = true := by
        cases fs with
        | nil => simp at hf
        | cons f fs =>
          rw [List.map_cons, List.map_cons] at hf
          have := (List.cons.inj hf).1
          have h3 : isE d₀ = false := by
            cases hq : isE d₀ with
            | false => rfl
            | true => exact absurd ((isE_iff d₀).mp hq) h0
          rw [h3] at this
          simpa using this
      rw [if_pos hf0]
      exact wpAny_pure hq
/-- xs.sort(), the items tuples that read as alike data -/
theorem list_sort_tup {prog : Program} {w : World} {A : Around} {E : Value → Shared → Prop} {s : Shared} {β : Type} {vs : List Value} {bs : List β} {enc : β → PyData} {R : Value → β → Prop} {a : Addr} {n : Nat} {Q : Value → Shared → Prop} (ho : s.heap.get? a = some (seqObj "list" vs.toArray n)) (e : EachIs R vs bs)
    (er : EachIs (fun v b => ∃ as, Reads s.heap v (enc b) as ∧ a ∉ as) vs bs) (hal : AllAlike (bs.map enc)) (hk : ∀ b ∈ bs, ∃ l, enc b = .tuple l) (hL : bs.length ≤ sizeLine)
    (hu : ∀ b, b ∈ bs → A.units + 1 + (enc b).depth < cLine) (h : ∀ out, out.length = bs.length → EachIs R out (bs.mergeSort (dataLe false enc)) → Q .none { s with heap := sortedHeap s.heap a vs (List.toArray out) }) :
    wpAny (model prog w) A (call (.builtin "list.sort") [.ref a]) Q E s := by
  have er' : EachIs (fun v b => ∃ as, Reads (sortingHeap s.heap a vs) v (enc b) as) vs bs := each_keepBut (h' := sortingHeap s.heap a vs) (fun _ _ hb q => sortingHeap_old hb q) (fun o q => by rw [ho] at q; rw [← Option.some.inj q]) hal er
  have hk' : ∀ d ∈ bs.map enc, ∃ l, d = .tuple l := fun d hd => by
    obtain ⟨b, hb, rfl⟩ := List.mem_map.mp hd
    exact hk b hb
  refine wpAny_call_entry slot_list_sort ⟨_, ho, rfl⟩ entry_list_sort (list_sort_vals (κ := dataKind (sortingHeap s.heap a vs) (bs.map enc)) ho (SortsAt.tup (s := { s with heap := sortingHeap s.heap a vs }) (each_map (R := fun v d => ∃ as, Reads (sortingHeap s.heap a vs) v d as) enc er') hal hk' (bound_map hu)) (by rw [e.length]; exact hL) ⟨.none, rfl, ?_⟩) (args_list_sort _)
  exact h _ (by rw [sortVals_length false rfl]; exact e.length) (sortVals_data false e er' hal)
end

/-! ### nested keys: ints, and tuples of such -/
section
open PySem.W PySem.Calls
mutual
inductive Nk (H : Hp) : NestedKey → V → Prop
  | num (i : Int) : Nk H (.num i) (.int i)
  | tup {a : Addr} {xs : List V} {ks : List NestedKey} : H a = some (.tup xs) → NkAll H ks xs → Nk H (.tup ks) (.ref a)
inductive NkAll (H : Hp) : List NestedKey → List V → Prop
  | nil : NkAll H [] []
  | cons {k : NestedKey} {v : V} {ks : List NestedKey} {vs : List V} : Nk H k v → NkAll H ks vs → NkAll H (k :: ks) (v :: vs)
end
mutual
def kdat : NestedKey → PyData
  | .none => .none
  | .num i => .int i
  | .text x => .str x
  | .tup l => .tuple (kdats l)
def kdats : List NestedKey → List PyData
  | [] => []
  | k :: l => kdat k :: kdats l
end
mutual
theorem Nk.mono {H H' : Hp} (s : Same H H') : ∀ (k : NestedKey) (v : V), Nk H k v → Nk H' k v
  | .num _, _, h => by cases h; exact .num _
  | .tup ks, _, h => by
    cases h with
    | tup e r => exact .tup (s _ _ e) (NkAll.mono s ks _ r)
  | .none, _, h => by cases h
  | .text _, _, h => by cases h
theorem NkAll.mono {H H' : Hp} (s : Same H H') : ∀ (ks : List NestedKey) (vs : List V), NkAll H ks vs → NkAll H' ks vs
  | [], _, h => by cases h; exact .nil
  | k :: ks, _, h => by
    cases h with
    | cons a b => exact .cons (Nk.mono s k _ a) (NkAll.mono s ks _ b)
end
mutual
theorem nkTup {H H' : Hp} (s : ∀ c zs, H c = some (.tup zs) → H' c = some (.tup zs)) : ∀ (k : NestedKey) (v : V), Nk H k v → Nk H' k v
  | .num _, _, h => by cases h; exact .num _
  | .tup ks, _, h => by
    cases h with
    | tup e r => exact .tup (s _ _ e) (nkTupAll s ks _ r)
  | .none, _, h => by cases h
  | .text _, _, h => by cases h
theorem nkTupAll {H H' : Hp} (s : ∀ c zs, H c = some (.tup zs) → H' c = some (.tup zs)) : ∀ (ks : List NestedKey) (vs : List V), NkAll H ks vs → NkAll H' ks vs
  | [], _, h => by cases h; exact .nil
  | k :: ks, _, h => by
    cases h with
    | cons a b => exact .cons (nkTup s k _ a) (nkTupAll s ks _ b)
end
mutual
theorem Nk.is {P : Program} {w : World} {H : Hp} {h : Heap} (ok : HOk P w H h) : ∀ (k : NestedKey) (v : V) (u : Value), Nk H k v → RelV v u → NestedIs h k u
  | .num i, _, _, x, r => by
    cases x
    obtain ⟨t, rfl⟩ := r
    exact .int i t
  | .tup ks, _, _, x, r => by
    cases x with
    | @tup a xs _ e q =>
      cases r
      obtain ⟨_, its, rv, o, h1, h2, n, h3⟩ := (show ObjOk P w H h a (.tup xs) from ok a _ e)
      exact .tup h1 h2 h3 (by simpa using NkAll.is ok ks _ _ q rv)
  | .none, _, _, x, _ => by cases x
  | .text _, _, _, x, _ => by cases x
theorem NkAll.is {P : Program} {w : World} {H : Hp} {h : Heap} (ok : HOk P w H h) : ∀ (ks : List NestedKey) (vs : List V) (us : List Value), NkAll H ks vs → Vals vs us → NestedAll h ks us
  | [], _, _, x, r => by cases x; cases r; exact .nil
  | k :: ks, _, _, x, r => by
    cases x with
    | cons a b =>
      cases r with
      | cons r1 r2 => exact .cons (Nk.is ok k _ _ a r1) (NkAll.is ok ks _ _ b r2)
end
mutual
theorem Nk.dp {K : PySem.W.Frag} {H : Hp} : ∀ (k : NestedKey) (v : V), Nk H k v → Dp K H v (kdat k)
  | .num i, _, x => by cases x; exact .int i
  | .tup ks, _, x => by
    cases x with
    | tup e q => exact .tup (.inl (.inl e)) (NkAll.dp ks _ q)
  | .none, _, x => by cases x
  | .text _, _, x => by cases x
theorem NkAll.dp {K : PySem.W.Frag} {H : Hp} : ∀ (ks : List NestedKey) (vs : List V), NkAll H ks vs → DpAll K H vs (kdats ks)
  | [], _, x => by cases x; exact .nil
  | k :: ks, _, x => by
    cases x with
    | cons a b => exact .cons (Nk.dp k _ a) (NkAll.dp ks _ b)
end
mutual
/-- it reads as its datum, off no list -/
theorem Nk.reads {P : Program} {w : World} {H : Hp} {h : Heap} (ok : HOk P w H h) : ∀ (k : NestedKey) (v : V) (u : Value), Nk H k v → RelV v u → Reads h u (kdat k) []
  | .num i, _, _, x, r => by
    cases x
    obtain ⟨t, rfl⟩ := r
    exact .int i t
  | .tup ks, _, _, x, r => by
    cases x with
    | @tup a xs _ e q =>
      cases r
      obtain ⟨_, its, rv, o, h1, h2, n, h3⟩ := (show ObjOk P w H h a (.tup xs) from ok a _ e)
      exact .tuple h1 h2 h3 (by simpa using NkAll.reads ok ks _ _ q rv)
  | .none, _, _, x, _ => by cases x
  | .text _, _, _, x, _ => by cases x
theorem NkAll.reads {P : Program} {w : World} {H : Hp} {h : Heap} (ok : HOk P w H h) : ∀ (ks : List NestedKey) (vs : List V) (us : List Value), NkAll H ks vs → Vals vs us → ReadsAll h us (kdats ks) []
  | [], _, _, x, r => by cases x; cases r; exact .nil
  | k :: ks, _, _, x, r => by
    cases x with
    | cons a b =>
      cases r with
      | cons r1 r2 => exact .cons (Nk.reads ok k _ _ a r1) (NkAll.reads ok ks _ _ b r2)
end
/-! ### a dict whose keys are such tuples, its values ints -/
abbrev Ent := NestedKey × Addr × Value
def kdO (P : Program) (w : World) (a : Addr) (xs : List Ent) : HO := .ext fun h => ∃ o es ep, h.get? a = some o ∧ o.ExactDict ∧ o.data = .dict es ep ∧ es.toList = xs.map (entryOfKey (nestedKind P w))
theorem kdO_ok {P : Program} {w : World} {H : Hp} {h : Heap} {a : Addr} {xs : List Ent} {o : Obj} {es : Array DictEntry} {ep : Nat} (h1 : h.get? a = some o) (h2 : o.ExactDict) (h3 : o.data = .dict es ep) (h4 : es.toList = xs.map (entryOfKey (nestedKind P w))) : ObjOk P w H h a (kdO P w a xs) :=
  ⟨⟨o, es, ep, h1, h2, h3, h4⟩, ⟨o, h1⟩, fun _ _ x k => let ⟨o, es, ep, h1, r⟩ := x; ⟨o, es, ep, k o h1, r⟩⟩
def EntOk (H : Hp) (p : NestedKey × Int) (q : Ent) : Prop := p.1 = q.1 ∧ Nk H q.1 (.ref q.2.1) ∧ q.1.depth ≤ 8 ∧ ∃ t, q.2.2 = .int p.2 t
/-- at d stands a dict of the pairs kvs -/
structure DN (P : Program) (w : World) (H : Hp) (d : Addr) (kvs : List (NestedKey × Int)) : Prop where
  ex : ∃ xs : List Ent, H d = some (kdO P w d xs) ∧ Paired (EntOk H) kvs xs
  nd : (kvs.map (·.1)).Nodup
  nm : (d == sysModules) = false
  sm : kvs.length ≤ 100000
theorem EntOk.mono {H H' : Hp} (s : Same H H') {p : NestedKey × Int} {q : Ent} (h : EntOk H p q) : EntOk H' p q := ⟨h.1, Nk.mono s _ _ h.2.1, h.2.2⟩
theorem DN.mono {P : Program} {w : World} {H H' : Hp} {d : Addr} {kvs : List (NestedKey × Int)} (s : Same H H') (x : DN P w H d kvs) : DN P w H' d kvs := by
  obtain ⟨⟨xs, h1, h2⟩, nd, nm, sm⟩ := x
  exact ⟨⟨xs, s _ _ h1, L2.Paired.mapP h2 fun _ _ h => h.mono s⟩, nd, nm, sm⟩
theorem paired_keys {H : Hp} : ∀ {kvs : List (NestedKey × Int)} {xs : List Ent}, Paired (EntOk H) kvs xs → kvs.map (·.1) = xs.map (·.1)
  | _, _, .nil => rfl
  | _, _, .cons h t => by rw [List.map_cons, List.map_cons, h.1, paired_keys t]
theorem DN.dict {P : Program} {w : World} {H : Hp} {h : Heap} {d : Addr} {kvs : List (NestedKey × Int)} (ok : HOk P w H h) (x : DN P w H d kvs) :
    ∃ xs : List Ent, H d = some (kdO P w d xs) ∧ Paired (EntOk H) kvs xs ∧ h.DictOfH (nestedKind P w) d xs := by
  obtain ⟨⟨xs, h1, h2⟩, nd, nm, sm⟩ := x
  obtain ⟨⟨o, es, ep, g1, g2, g3, g4⟩, _⟩ := (show ObjOk P w H h d (kdO P w d xs) from ok d _ h1)
  refine ⟨xs, h1, h2, o, es, ep, g1, g2, g3, g4, fun y hy => ?_, by rw [← paired_keys h2]; exact nd⟩
  have all : ∀ {l : List (NestedKey × Int)} {m : List Ent}, Paired (EntOk H) l m → ∀ y ∈ m, (nestedKind P w).is h y.1 y.2.1 := by
    intro l m q
    induction q with
    | nil => intro y hy; cases hy
    | @cons p q ps qs hq t ih =>
      intro y hy
      rcases List.mem_cons.mp hy with e | hy
      · subst e
        exact ⟨Nk.is ok _ _ _ hq.2.1 rfl, hq.2.2.1⟩
      · exact ih y hy
  exact all h2 y hy
def lookN (kvs : List (NestedKey × Int)) (k : NestedKey) : Option Int := (kvs.find? fun p => decide (p.1 = k)).map (·.2)
def putN (kvs : List (NestedKey × Int)) (k : NestedKey) (n : Int) : List (NestedKey × Int) := if (lookN kvs k).isSome then kvs.map (fun p => if p.1 = k then (p.1, n) else p) else kvs ++ [(k, n)]
theorem look_at {H : Hp} (k : NestedKey) : ∀ {kvs : List (NestedKey × Int)} {xs : List Ent}, Paired (EntOk H) kvs xs → (∀ n, lookN kvs k = some n → ∃ b t, atKey xs k = some (b, .int n t)) ∧ (lookN kvs k = none → atKey xs k = none)
  | _, _, .nil => ⟨(fun _ h => nomatch h), fun _ => rfl⟩
  | _, _, .cons (a := p) (b := q) (l₁ := ps) (l₂ := qs) h t => by
    have ih := look_at k t
    by_cases e : p.1 = k
    · have e2 : q.1 = k := h.1.symm.trans e
      have a1 : lookN (p :: ps) k = some p.2 := by unfold lookN; rw [List.find?_cons_of_pos (by simp [e])]; rfl
      have a2 : atKey (q :: qs) k = some q.2 := by unfold atKey; rw [List.find?_cons_of_pos (by simp [e2])]; rfl
      obtain ⟨t', ht⟩ := h.2.2.2
      refine ⟨fun n hn => ?_, fun hn => ?_⟩
      · rw [a1] at hn
        cases hn
        exact ⟨q.2.1, t', by rw [a2]; rw [← ht]⟩
      · rw [a1] at hn; cases hn
    · have e2 : ¬ q.1 = k := fun z => e (h.1.trans z)
      have a1 : lookN (p :: ps) k = lookN ps k := by unfold lookN; rw [List.find?_cons_of_neg (by simp [e])]
      have a2 : atKey (q :: qs) k = atKey qs k := by unfold atKey; rw [List.find?_cons_of_neg (by simp [e2])]
      rw [a1, a2]
      exact ih
theorem lookN_none {kvs : List (NestedKey × Int)} {k : NestedKey} (h : lookN kvs k = none) : k ∉ kvs.map (·.1) := fun hm => by
  obtain ⟨p, hp, rfl⟩ := List.mem_map.mp hm
  unfold lookN at h
  rw [Option.map_eq_none_iff, List.find?_eq_none] at h
  exact h p hp (by simp)
theorem putN_keys (kvs : List (NestedKey × Int)) (k : NestedKey) (n : Int) : (putN kvs k n).map (·.1) = if (lookN kvs k).isSome then kvs.map (·.1) else kvs.map (·.1) ++ [k] := by
  unfold putN
  split
  · rw [List.map_map]
    refine List.map_congr_left fun p _ => ?_
    show (if p.1 = k then (p.1, n) else p).1 = p.1
    split <;> rfl
  · rw [List.map_append]; rfl
theorem putN_nodup {kvs : List (NestedKey × Int)} {k : NestedKey} {n : Int} (h : (kvs.map (·.1)).Nodup) : ((putN kvs k n).map (·.1)).Nodup := by
  rw [putN_keys]
  split
  · exact h
  · rename_i hn
    refine List.nodup_append.mpr ⟨h, by simp, fun a ha b hb e => ?_⟩
    rw [List.mem_singleton] at hb
    subst hb e
    exact lookN_none (by simpa using hn) ha
theorem putN_len (kvs : List (NestedKey × Int)) (k : NestedKey) (n : Int) : (putN kvs k n).length ≤ kvs.length + 1 := by
  unfold putN
  split
  · rw [List.length_map]; omega
  · rw [List.length_append]; simp
theorem paired_app {α β : Type} {F : α → β → Prop} : ∀ {a : List α} {b : List β} {c : List α} {d : List β}, Paired F a b → Paired F c d → Paired F (a ++ c) (b ++ d)
  | _, _, _, _, .nil, h => h
  | _, _, _, _, .cons x r, h => .cons x (paired_app r h)
theorem paired_put {H : Hp} {k : NestedKey} {n : Int} {t : Tok} : ∀ {kvs : List (NestedKey × Int)} {xs : List Ent}, Paired (EntOk H) kvs xs → Paired (EntOk H) (kvs.map fun p => if p.1 = k then (p.1, n) else p) (xs.map (putAt k (.int n t)))
  | _, _, .nil => .nil
  | _, _, .cons (a := p) (b := q) h r => by
    refine .cons ?_ (paired_put r)
    by_cases e : p.1 = k
    · have e2 : q.1 = k := h.1.symm.trans e
      show EntOk H (if p.1 = k then (p.1, n) else p) (if q.1 = k then (q.1, q.2.1, .int n t) else q)
      rw [if_pos e, if_pos e2]
      exact ⟨h.1, h.2.1, h.2.2.1, t, rfl⟩
    · have e2 : ¬ q.1 = k := fun z => e (h.1.trans z)
      show EntOk H (if p.1 = k then (p.1, n) else p) (if q.1 = k then (q.1, q.2.1, .int n t) else q)
      rw [if_neg e, if_neg e2]
      exact h
theorem DN.put {P : Program} {w : World} {H : Hp} {d b : Addr} {kvs : List (NestedKey × Int)} {xs : List Ent} {k : NestedKey} {n : Int} {t : Tok} (x : DN P w H d kvs) (h2 : Paired (EntOk H) kvs xs) (hd : ∃ ys, H d = some (kdO P w d ys)) (hb : Nk H k (.ref b)) (hk : k.depth ≤ 8) (hsm : kvs.length < 100000) :
    DN P w (upd H d (kdO P w d (storedH xs k b (.int n t)))) d (putN kvs k n) := by
  obtain ⟨ys, hd⟩ := hd
  have km : ∀ c zs, H c = some (.tup zs) → (upd H d (kdO P w d (storedH xs k b (.int n t)))) c = some (.tup zs) := fun c zs e => by
    rw [upd_ne (ne_of e hd (fun z => nomatch z))]
    exact e
  refine ⟨⟨storedH xs k b (.int n t), upd_same, ?_⟩, putN_nodup x.nd, x.nm, Nat.le_trans (putN_len _ _ _) hsm⟩
  have base : Paired (EntOk H) (putN kvs k n) (storedH xs k b (.int n t)) := by
    have l := look_at k h2
    unfold putN storedH
    cases e : lookN kvs k with
    | some m =>
      obtain ⟨b', t', e'⟩ := l.1 m e
      rw [e']
      exact paired_put h2
    | none =>
      rw [l.2 e]
      exact paired_app h2 (.cons ⟨rfl, hb, hk, t, rfl⟩ .nil)
  exact L2.Paired.mapP base fun p q h => ⟨h.1, nkTup km _ _ h.2.1, h.2.2⟩
end

/-! ### the rules -/
section
open PySem.W PySem.Calls
variable {X : Cx} {o e f i value : Expr} {td ty tx tv : TE}
/-- {} -/
def tDNewN (P : Program) (w : World) : TE := fun _ H Q => ∀ p, H p = none → (p == sysModules) = false → Q (.ref p) (upd H p (kdO P w p []))
theorem pe_dnewN {P : Program} {w : World} (hP : X.prog = P) (hW : X.w = w) {pos : Pos} : PE X (.Dict [] [] pos) (tDNewN P w) := by
  subst hP hW
  exact ⟨fun pins s σ H Q I h => wpAny_Dict_empty ⟨.ref s.heap.objs.size, _, I.laid (a := s.heap.objs.size) (o := kdO X.prog X.w s.heap.objs.size []) (t' := s.toks) (fun _ _ q => Heap.get?_push_of_some _ q) (Nat.le_refl _)
    (kdO_ok (xs := []) (Heap.get?_push_size _ rfl) ⟨rfl, rfl, rfl⟩ rfl rfl), rfl, h _ (I.hok.fresh (Nat.le_refl _)) (beq_eq_false_iff_ne.mpr (Nat.ne_of_gt I.big))⟩⟩
theorem dn_new {P : Program} {w : World} {H : Hp} {p : Addr} (h : (p == sysModules) = false) : DN P w (upd H p (kdO P w p [])) p [] := ⟨⟨[], upd_same, .nil⟩, List.nodup_nil, h, Nat.zero_le _⟩
theorem nroom {A : Around} (hu : A.units + 64 < cLine) {P : Program} {w : World} : (nestedKind P w).room A.in1 := by
  show A.in1.units + 8 < cLine
  have : A.in1.units = A.units + 1 := rfl
  omega
theorem nroom0 {A : Around} (hu : A.units + 64 < cLine) {P : Program} {w : World} : (nestedKind P w).room A := by
  show A.units + 8 < cLine
  omega
theorem dn_at {pins : List (Addr × Obj)} {σ : L2.St} {H : Hp} {s : Shared} {a : Addr} {kvs : List (NestedKey × Int)} (I : Inv X pins σ H s) (d : DN X.prog X.w H a kvs) :
    s.TypeIs (.ref a) "dict" ∧ (∀ b, Value.ref a = .ref b → ∃ ob, s.heap.get? b = some ob ∧ ob.dict = none) := by
  obtain ⟨xs, _, _, o, es, ep, h1, h2, _⟩ := d.dict I.hok
  refine ⟨⟨o, h1, h2.1⟩, fun b q => ?_⟩
  cases q
  exact ⟨o, h1, h2.2.1⟩
/-- d.get(k, n) -/
def tGetN (P : Program) (w : World) (td ty tx : TE) : TE := fun σ H Q => td σ H fun x H1 => ∃ a kvs, x = .ref a ∧ DN P w H1 a kvs ∧ ty σ H1 fun y H2 => tx σ H2 fun z H3 => ∃ kvs' k b n, DN P w H3 a kvs' ∧ y = .ref b ∧ Nk H3 k (.ref b) ∧ k.depth ≤ 8 ∧ z = .int n ∧ Q (.int ((lookN kvs' k).getD n)) H3
theorem pe_getN {P : Program} {w : World} (hP : X.prog = P) (hW : X.w = w) {apos cpos : Pos} (hu : X.A.units + 64 < cLine) (ho : PE X o td) (he : PE X e ty) (hf : PE X f tx) (m : M2 X o "get" apos e f cpos) : PE X (.Call (.Attribute o "get" apos) [e, f] [] cpos) (tGetN P w td ty tx) := by
  subst hP hW
  refine ⟨fun pins s σ H Q I h => ?_⟩
  refine wpAny_Call_method m.base m.few m.line PySem.F.plainAttrs_dict PySem.F.slot_dict_get PySem.F.type_dict_get (thn (ho.run pins s σ H _ I h) fun u s1 ⟨x, H1, I1, rx, a, kvs, ex, d, q1⟩ => ?_)
  subst ex
  obtain rfl : u = Value.ref a := rx
  obtain ⟨t1, t2⟩ := dn_at I1 d
  refine ⟨t1, t2, ?_⟩
  rw [m.trees]
  refine Calls.callWith_builtin rfl (Calls.evalArgs_plain (Calls.spliced_cons (thn (he.run pins s1 σ H1 _ I1 q1) fun iv s2 ⟨y, H2, I2, ry, q2⟩ =>
    Calls.spliced_cons (thn (hf.run pins s2 σ H2 _ I2 q2) fun fv s3 ⟨z, H3, I3, rz, kvs', k, b, n, d3, ey, hb, hk, ez, q3⟩ => Calls.spliced_nil ?_))))
  subst ey ez
  obtain rfl : iv = Value.ref b := ry
  obtain ⟨t, rfl⟩ := rz
  obtain ⟨xs, _, hp, dd⟩ := d3.dict I3.hok
  refine call_meetsIn PySem.F.slot_dict_get dd.typeIs PySem.F.entry_dict_get (PySem.F.args_dict_get_3 _ _ _) (meetsH_dict_get_default (nestedKind X.prog X.w) a b d3.nm (.int n t)) ⟨nroom hu, k, xs, ⟨Nk.is I3.hok _ _ _ hb rfl, hk⟩, dd, ?_⟩
  have l := look_at k hp
  cases el : lookN kvs' k with
  | some m =>
    rw [el] at q3
    obtain ⟨b', t', e'⟩ := l.1 m el
    rw [e']
    exact ⟨.int m, H3, I3.tok _, ⟨t', rfl⟩, q3⟩
  | none =>
    rw [el] at q3
    rw [l.2 el]
    exact ⟨.int n, H3, I3.tok _, ⟨t, rfl⟩, q3⟩
/-- d[k] -/
def tItemN (P : Program) (w : World) (td ty : TE) : TE := fun σ H Q => td σ H fun x H1 => ty σ H1 fun y H2 => ∃ a kvs k b n, x = .ref a ∧ DN P w H2 a kvs ∧ y = .ref b ∧ Nk H2 k (.ref b) ∧ k.depth ≤ 8 ∧ lookN kvs k = some n ∧ Q (.int n) H2
theorem pe_itemN {P : Program} {w : World} (hP : X.prog = P) (hW : X.w = w) {pos : Pos} (hu : X.A.units + 64 < cLine) (ho : PE X o td) (hi : PE X i ty) (hs : NoSl i) : PE X (.Subscript o i pos) (tItemN P w td ty) := by
  subst hP hW
  refine ⟨fun pins s σ H Q I h => ?_⟩
  refine subD_of PySem.F.slot_dict_getitem.lookup hs (thn (ho.run pins s σ H _ I h) fun u s1 ⟨x, H1, I1, rx, q1⟩ => thn (hi.run pins s1 σ H1 _ I1 q1) fun iv s2 ⟨y, H2, I2, ry, a, kvs, k, b, n, ex, d, ey, hb, hk, l, q2⟩ => ?_)
  subst ex ey
  obtain rfl : u = Value.ref a := rx
  obtain rfl : iv = Value.ref b := ry
  obtain ⟨xs, _, hp, dd⟩ := d.dict I2.hok
  obtain ⟨b', t', e'⟩ := (look_at k hp).1 n l
  exact ⟨(dn_at I2 d).1, wpAny_getItem_heap (nroom hu) ⟨Nk.is I2.hok _ _ _ hb rfl, hk⟩ dd e' ⟨.int n, H2, I2.tok _, ⟨t', rfl⟩, q2⟩⟩
/-- d[k] = n -/
def sPutN (P : Program) (w : World) (td ty tv : TE) : TS := fun D σ H => tv σ H fun v H1 => td σ H1 fun x H2 => ty σ H2 fun y H3 => ∃ a kvs k b n, v = .int n ∧ x = .ref a ∧ DN P w H3 a kvs ∧ y = .ref b ∧ Nk H3 k (.ref b) ∧ k.depth ≤ 8 ∧ kvs.length < 100000 ∧
  ∀ H4, DN P w H4 a (putN kvs k n) → (∀ c u, c ≠ a → H3 c = some u → H4 c = some u) → (∀ c, H4 c = none ↔ H3 c = none) → D.nx σ H4
theorem ps_putN {P : Program} {w : World} (hP : X.prog = P) (hW : X.w = w) {pos pos' : Pos} (hu : X.A.units + 64 < cLine) (ho : PE X o td) (hi : PE X i ty) (hv : PE X value tv) (hs : swapsWith value (some (.Subscript o i pos')) pos.line X.env = pure false) :
    PS X (.Assign [.Subscript o i pos'] value pos) (sPutN P w td ty tv) := by
  subst hP hW
  refine ⟨fun pins s σ H D I h => ?_⟩
  refine wpAny_Assign_Subscript (thn (hv.run pins s σ H _ I h) fun r s1 ⟨v, H1, I1, rv, q1⟩ => thn (ho.run pins s1 σ H1 _ I1 q1) fun u s2 ⟨x, H2, I2, rx, q2⟩ => thn (hi.run pins s2 σ H2 _ I2 q2) fun iv s3 ⟨y, H3, I3, ry, a, kvs, k, b, n, ev, ex, d, ey, hb, hk, hsm, q3⟩ => ?_) hs
  subst ev ex ey
  obtain rfl : u = Value.ref a := rx
  obtain rfl : iv = Value.ref b := ry
  obtain ⟨t, rfl⟩ := rv
  obtain ⟨xs, h1, hp, dd⟩ := d.dict I3.hok
  have hl : xs.length = kvs.length := (Paired.length hp).symm
  have hline : (100000 : Nat) ≤ sizeLine := by decide
  refine wpAny_setItem_heap (hsz := by omega) (nroom hu) ⟨Nk.is I3.hok _ _ _ hb rfl, hk⟩ dd fun h' dd' hs' => ?_
  obtain ⟨q, es, ep, hq, g2, g3, g4, _, _⟩ := dd'
  refine ⟨σ, upd H3 a (kdO X.prog X.w a (storedH xs k b (.int n t))), d_write I3 (by rw [h1]; exact True.intro) hs' ⟨q, hq⟩ (kdO_ok hq g2 g3 g4), q3 _ (d.put hp ⟨xs, h1⟩ hb hk hsm) (fun c u hc ec => ?_) (fun c => ?_)⟩
  · rw [upd_ne hc]; exact ec
  · by_cases hc : c = a
    · subst hc
      rw [upd_same, h1]
      simp
    · rw [upd_ne hc]
end

/-! ### d.keys(), sorted(d), sorted(d.keys()) -/
section
open PySem.W PySem.Calls
def keysO (v d : Addr) : HO := .ext fun h => KdlKeysView h v d
section
variable {X : Cx} {o : Expr} {td : TE}
def tKeysN (P : Program) (w : World) (td : TE) : TE := fun σ H Q => td σ H fun x H1 => ∃ a kvs, x = .ref a ∧ DN P w H1 a kvs ∧ ∀ p, H1 p = none → Q (.ref p) (upd H1 p (keysO p a))
theorem pe_keysN {apos cpos : Pos} (ho : PE X o td) (hbase : attributeBase o "keys" X.env (eval o X.env) = eval o X.env := by rfl) (hline : (apos.endLine == cpos.line) = true := by rfl) : PE X (.Call (.Attribute o "keys" apos) [] [] cpos) (tKeysN X.prog X.w td) := by
  refine ⟨fun pins s σ H Q I h => ?_⟩
  refine wpAny_Call_method0_late hbase hline (thn (ho.run pins s σ H _ I h) fun u s1 ⟨x, H1, I1, rx, a, kvs, ex, d, q1⟩ => ?_)
  subst ex
  obtain rfl : u = Value.ref a := rx
  obtain ⟨t1, t2⟩ := dn_at I1 d
  obtain ⟨xs, _, hp, dd⟩ := d.dict I1.hok
  obtain ⟨es, ep, hr, _, _⟩ := dd.raw
  refine ⟨"dict", _, PySem.F.plainAttrs_dict, PySem.F.slot_dict_keys, PySem.F.type_dict_keys, t1, t2, Calls.callWith_builtin rfl (PySem.evalArgs_none ?_)⟩
  refine call_meetsIn PySem.F.slot_dict_keys dd.typeIs PySem.F.entry_dict_keys (PySem.F.args_dict_keys_1 _) (meets_dict_keys_raw a d.nm) ⟨⟨es, ep, hr⟩, ?_⟩
  refine ⟨.ref s1.heap.objs.size, upd H1 s1.heap.objs.size (keysO s1.heap.objs.size a), I1.laid (t' := s1.toks) (fun _ _ e => Heap.get?_push_of_some _ e) (Nat.le_refl _) ?_, rfl, q1 _ (I1.hok.fresh (Nat.le_refl _))⟩
  exact ⟨⟨_, Heap.get?_push_size _ rfl, rfl, rfl⟩, ⟨_, Heap.get?_push_size _ rfl⟩, fun h1 h2 x k => let ⟨o, ho, r⟩ := x; ⟨o, k o ho, r⟩⟩
def rSortN (P : Program) (w : World) : List V → Hp → VK → Prop := fun vs H Q => ∃ (v a : Addr) (kvs : List (NestedKey × Int)), vs = [.ref v] ∧ (v = a ∨ H v = some (keysO v a)) ∧ DN P w H a kvs ∧ (∀ p ∈ kvs, ∃ l, p.1 = .tup l) ∧
  (∀ p ∈ kvs, ∀ q ∈ kvs, alike (kdat p.1) (kdat q.1) = true) ∧ (∀ p ∈ kvs, (kdat p.1).depth ≤ 8) ∧ ∀ l ys, H l = none → NkAll H ((kvs.map (·.1)).mergeSort (dataLe false kdat)) ys → Q (.ref l) (upd H l (.lst ys))
theorem refs_each {H : Hp} : ∀ {out : List Value} {ks : List NestedKey}, EachIs (fun v k => ∃ b, v = Value.ref b ∧ Nk H k (.ref b)) out ks → ∃ ys, Vals ys out ∧ NkAll H ks ys
  | _, _, .nil => ⟨[], .nil, .nil⟩
  | _, _, .cons ⟨b, e, hb⟩ t => by
    obtain ⟨ys, h1, h2⟩ := refs_each t
    subst e
    exact ⟨.ref b :: ys, .cons rfl h1, .cons hb h2⟩
theorem each_at {α β : Type} {R : α → β → Prop} : ∀ {l : List α} {m : List β}, l.length = m.length → (∀ (j : Nat) (x : α) (y : β), l[j]? = some x → m[j]? = some y → R x y) → EachIs R l m
  | [], [], _, _ => .nil
  | x :: l, y :: m, hl, h => .cons (h 0 x y rfl rfl) (each_at (by simpa using hl) fun j a b e1 e2 => h (j + 1) a b (by simpa using e1) (by simpa using e2))
  | [], _ :: _, hl, _ => by simp at hl
  | _ :: _, [], hl, _ => by simp at hl
theorem cr_sortedN (hc : X.calm = true) (hu : X.A.units + 64 < cLine) : CallR X (.builtin "sorted") (rSortN X.prog X.w) := by
  intro pins s σ H vs us Q I r q
  obtain ⟨v, a, kvs, ev, hv, d, htup, hal, hdep, q⟩ := q
  subst ev
  obtain rfl := Vals.ref1 r
  obtain ⟨xs, h1, hp, dd⟩ := d.dict I.hok
  obtain ⟨es, ep, hr, hes, hen⟩ := dd.raw
  have hxl : xs.length = kvs.length := (Paired.length hp).symm
  have hline : (100000 : Nat) ≤ sizeLine := by decide
  have hsm := d.sm
  have h16 : es.size ≤ sizeLine := by omega
  refine Calls.call_function_entry PyProof.Rows.kind_sorted PyProof.Rows.plain_sorted PyProof.Rows.entry_sorted (PyProof.Rows.args_sorted1 _) ?_
  unfold Builtin.«sorted»
  refine wpAny_bind (m := checkCount "sorted" 1 1 _) (wpAny_pure ?_)
  have col : ∀ (R : List Value → Shared → Prop), (∀ (h' : Heap) (tk : Nat) (acc : Array Value), (∀ b o, s.heap.get? b = some o → h'.get? b = some o) → ItemsOf (fun i v => ∃ hi : i < es.size, v = es[i].key) acc es.size → R acc.toList { s with heap := h', toks := tk }) →
      ∀ E, wpAny (model X.prog X.w) X.A.in1 (collect (.ref v)) R E s := fun R k E => by
    rcases hv with rfl | hv
    · exact kdu_collect (A := X.A.in1) (KdlSrc.rawDict (es := es) (ep := ep) d.nm) (I.ok.hd hc) hr h16 k
    · exact kdu_collect (A := X.A.in1) (KdlSrc.rawKeys (es := es) (ep := ep) (r := v) (d := a)) (I.ok.hd hc) ⟨(show ObjOk X.prog X.w H s.heap v (keysO v a) from I.hok v _ hv).1, hr⟩ h16 k
  refine wpAny_bind (col _ (fun h' tk acc hk hacc => ?_) _)
  have hal2 : acc.toList.length = (kvs.map (·.1)).length := by rw [Array.length_toList, hacc.1, List.length_map]; omega
  have hE : EachIs (fun v k => ∃ b, v = Value.ref b ∧ Nk H k (.ref b)) acc.toList (kvs.map (·.1)) := each_at hal2 fun j u k e1 e2 => by
    obtain ⟨hi, eu⟩ := hacc.2 j u (by rw [← Array.getElem?_toList]; exact e1)
    obtain ⟨y, hy, g1, _, _⟩ := hen j hi
    rw [paired_keys hp, List.getElem?_map, hy] at e2
    have ek : y.1 = k := Option.some.inj e2
    have hent : ∀ {l : List (NestedKey × Int)} {m : List Ent}, Paired (EntOk H) l m → ∀ y ∈ m, Nk H y.1 (.ref y.2.1) := by
      intro l m q
      induction q with
      | nil => intro y hy; cases hy
      | @cons p q ps qs hq t ih =>
        intro y hy
        rcases List.mem_cons.mp hy with e | hy
        · subst e; exact hq.2.1
        · exact ih y hy
    refine ⟨y.2.1, eu.trans g1, ?_⟩
    rw [← ek]
    exact hent hp y (List.mem_of_getElem? hy)
  have I1 : Inv X pins σ H { s with heap := h', toks := tk } := I.kept hk
  refine wpAny_bind (wpAny_newList ?_ (by rw [hal2, List.length_map]; omega))
  have hoL : (h'.push (seqObj "list" acc.toList.toArray 0)).get? h'.objs.size = some (seqObj "list" acc.toList.toArray 0) := Heap.get?_push_size _ rfl
  show wpAny _ _ _ _ _ { s with heap := h'.push (seqObj "list" acc.toList.toArray 0), toks := tk }
  have hR : EachIs (fun v b => ∃ as, Reads (h'.push (seqObj "list" acc.toList.toArray 0)) v (kdat b) as ∧ h'.objs.size ∉ as) acc.toList (kvs.map (·.1)) := hE.mono fun u k ⟨b, eu, hb⟩ => by
    subst eu
    exact ⟨[], PyProof.Rows.Reads.keeps (fun b o e => Heap.get?_push_of_some _ e) (Nk.reads I1.hok _ _ _ hb rfl), by simp⟩
  refine wpAny_bind (wpAny_holding (list_sort_tup (s := { s with heap := h'.push (seqObj "list" acc.toList.toArray 0), toks := tk }) (enc := kdat) (R := fun v k => ∃ b, v = Value.ref b ∧ Nk H k (.ref b)) hoL hE hR ?_ ?_ ?_ ?_ fun out ho2 hout => ?_))
  · intro x hx y hy
    obtain ⟨k, hk1, rfl⟩ := List.mem_map.mp hx
    obtain ⟨k', hk2, rfl⟩ := List.mem_map.mp hy
    obtain ⟨p, hp1, rfl⟩ := List.mem_map.mp hk1
    obtain ⟨p', hp2, rfl⟩ := List.mem_map.mp hk2
    exact hal p hp1 p' hp2
  · intro k hk1
    obtain ⟨p, hp1, rfl⟩ := List.mem_map.mp hk1
    obtain ⟨l, el⟩ := htup p hp1
    exact ⟨kdats l, by rw [el]; rfl⟩
  · rw [List.length_map]; omega
  · intro k hk1
    obtain ⟨p, hp1, rfl⟩ := List.mem_map.mp hk1
    have h8 := hdep p hp1
    have h9 : X.A.in1.units = X.A.units + 1 := rfl
    omega
  · obtain ⟨ys, hys1, hys2⟩ := refs_each hout
    obtain ⟨e', he'⟩ := PyProof.Rows.sortedHeap_at (vs := acc.toList) (out := out.toArray) hoL
    have hlen : ys.length ≤ sizeLine := by
      rw [hys1.length, ho2, List.length_map]
      omega
    refine wpAny_pure ⟨_, rfl, .ref h'.objs.size, upd H h'.objs.size (.lst ys), I1.laid (t' := tk) (fun b u e => ?_) (Nat.le_refl _)
      (show ObjOk X.prog X.w _ _ _ (.lst ys) from ⟨hlen, out, e', hys1, he'⟩), rfl, q _ ys (I1.hok.fresh (Nat.le_refl _)) hys2⟩
    have hb : b < h'.objs.size := Heap.lt_size e
    rw [PyProof.Rows.sortedHeap_old (Nat.ne_of_lt hb) (by rw [size_push']; exact Nat.lt_succ_of_lt hb)]
    exact Heap.get?_push_of_some _ e
end
end

/-! ### pairs gathered by key: the mathematics -/
def totals (l : List (NestedKey × Int)) : List (NestedKey × Int) := l.foldl (fun d p => putN d p.1 ((lookN d p.1).getD 0 + p.2)) []
def pick (kvs : List (NestedKey × Int)) (k : NestedKey) : Option (NestedKey × Int) := match lookN kvs k with
  | some n => if n = 0 then none else some (k, n)
  | none => none
def sortedKeys (kvs : List (NestedKey × Int)) : List NestedKey := (kvs.map (·.1)).mergeSort (PySem.W.dataLe false kdat)
def settle (l : List (NestedKey × Int)) : List (NestedKey × Int) := (sortedKeys (totals l)).filterMap (pick (totals l))
/-- keys that can be sorted together -/
structure KeysOk (ks : List NestedKey) : Prop where
  tup : ∀ k ∈ ks, ∃ l, k = .tup l
  dep : ∀ k ∈ ks, k.depth ≤ 8
  dep2 : ∀ k ∈ ks, (kdat k).depth ≤ 8
  alk : ∀ k ∈ ks, ∀ k' ∈ ks, PySem.W.alike (kdat k) (kdat k') = true
theorem KeysOk.sub {ks ks' : List NestedKey} (h : KeysOk ks) (s : ∀ k ∈ ks', k ∈ ks) : KeysOk ks' :=
  ⟨fun k hk => h.tup k (s k hk), fun k hk => h.dep k (s k hk), fun k hk => h.dep2 k (s k hk), fun k hk k' hk' => h.alk k (s k hk) k' (s k' hk')⟩
theorem totals_more (l : List (NestedKey × Int)) (p : NestedKey × Int) : totals (l ++ [p]) = putN (totals l) p.1 ((lookN (totals l) p.1).getD 0 + p.2) := by
  unfold totals
  rw [List.foldl_append]
  rfl
theorem totals_keys (l : List (NestedKey × Int)) : ∀ k ∈ (totals l).map (·.1), k ∈ l.map (·.1) := by
  have key : ∀ (l a : List (NestedKey × Int)) (ks : List NestedKey), (∀ k ∈ a.map (·.1), k ∈ ks) → (∀ p ∈ l, p.1 ∈ ks) → ∀ k ∈ (l.foldl (fun d p => putN d p.1 ((lookN d p.1).getD 0 + p.2)) a).map (·.1), k ∈ ks := by
    intro l
    induction l with
    | nil => intro a ks h _ k hk; exact h k hk
    | cons p l ih =>
      intro a ks h hl k hk
      refine ih _ ks (fun k hk => ?_) (fun q hq => hl q (List.mem_cons_of_mem _ hq)) k hk
      rw [putN_keys] at hk
      split at hk
      · exact h k hk
      · rcases List.mem_append.mp hk with hk | hk
        · exact h k hk
        · rw [List.mem_singleton.mp hk]; exact hl p (List.mem_cons_self ..)
  exact key l [] _ (fun k hk => by cases hk) (fun p hp => List.mem_map_of_mem hp)
theorem totals_len (l : List (NestedKey × Int)) : (totals l).length ≤ l.length := by
  have key : ∀ (l a : List (NestedKey × Int)), (l.foldl (fun d p => putN d p.1 ((lookN d p.1).getD 0 + p.2)) a).length ≤ a.length + l.length := by
    intro l
    induction l with
    | nil => intro a; exact Nat.le_refl _
    | cons p l ih =>
      intro a
      have h1 := ih (putN a p.1 ((lookN a p.1).getD 0 + p.2))
      have h2 := putN_len a p.1 ((lookN a p.1).getD 0 + p.2)
      rw [List.foldl_cons, List.length_cons]
      omega
  have := key l []
  rw [List.length_nil, Nat.zero_add] at this
  exact this
theorem take_more' {α : Type} {l : List α} {i : Nat} {x : α} (h : l[i]? = some x) : l.take (i + 1) = l.take i ++ [x] := by
  rw [List.take_add_one, h]; rfl
theorem lookN_some {kvs : List (NestedKey × Int)} {k : NestedKey} (h : k ∈ kvs.map (·.1)) : ∃ n, lookN kvs k = some n := by
  cases e : lookN kvs k with
  | some n => exact ⟨n, rfl⟩
  | none => exact absurd h (lookN_none e)
theorem sortedKeys_mem {kvs : List (NestedKey × Int)} {k : NestedKey} : k ∈ sortedKeys kvs ↔ k ∈ kvs.map (·.1) := (List.mergeSort_perm _ _).mem_iff
theorem sortedKeys_len (kvs : List (NestedKey × Int)) : (sortedKeys kvs).length = kvs.length := by
  unfold sortedKeys
  rw [(List.mergeSort_perm _ _).length_eq, List.length_map]
theorem filterMap_more {α β : Type} (f : α → Option β) {l : List α} {i : Nat} {x : α} (h : l[i]? = some x) : (l.take (i + 1)).filterMap f = (l.take i).filterMap f ++ (f x).toList := by
  rw [take_more' h, List.filterMap_append]
  cases hf : f x with
  | none => simp [hf]
  | some y => simp [hf]
/-! ### a list of such pairs in the heap -/
inductive PrAll (H : Hp) : List (NestedKey × Int) → List V → Prop
  | nil : PrAll H [] []
  | cons {k : NestedKey} {n : Int} {t b : Addr} {l : List (NestedKey × Int)} {xs : List V} : H t = some (.tup [.ref b, .int n]) → Nk H k (.ref b) → PrAll H l xs → PrAll H ((k, n) :: l) (.ref t :: xs)
theorem PrAll.mono {H H' : Hp} (s : Same H H') : ∀ {l : List (NestedKey × Int)} {xs : List V}, PrAll H l xs → PrAll H' l xs
  | _, _, .nil => .nil
  | _, _, .cons a b c => .cons (s _ _ a) (Nk.mono s _ _ b) (c.mono s)
theorem PrAll.length {H : Hp} : ∀ {l : List (NestedKey × Int)} {xs : List V}, PrAll H l xs → xs.length = l.length
  | _, _, .nil => rfl
  | _, _, .cons _ _ c => by rw [List.length_cons, List.length_cons, c.length]
theorem PrAll.at {H : Hp} : ∀ {l : List (NestedKey × Int)} {xs : List V} {i : Nat} {x : V}, PrAll H l xs → xs[i]? = some x → ∃ k n t b, l[i]? = some (k, n) ∧ x = .ref t ∧ H t = some (.tup [.ref b, .int n]) ∧ Nk H k (.ref b)
  | _, _, i, x, .nil, h => by simp at h
  | _, _, 0, x, .cons (k := k) (n := n) (t := t) (b := b) a c _, h => ⟨k, n, t, b, rfl, (Option.some.inj h).symm, a, c⟩
  | _, _, i + 1, x, .cons _ _ r, h => by
    obtain ⟨k, n, t, b, h1, h2⟩ := r.at (i := i) h
    exact ⟨k, n, t, b, h1, h2⟩
theorem PrAll.app {H : Hp} : ∀ {l m : List (NestedKey × Int)} {xs ys : List V}, PrAll H l xs → PrAll H m ys → PrAll H (l ++ m) (xs ++ ys)
  | _, _, _, _, .nil, h => h
  | _, _, _, _, .cons a b c, h => .cons a b (c.app h)
theorem NkAll.at {H : Hp} : ∀ {ks : List NestedKey} {ys : List V} {i : Nat} {y : V}, NkAll H ks ys → ys[i]? = some y → ∃ k, ks[i]? = some k ∧ Nk H k y
  | _, _, i, y, .nil, h => by simp at h
  | _, _, 0, y, .cons (k := k) a _, h => ⟨k, rfl, (Option.some.inj h) ▸ a⟩
  | _, _, i + 1, y, .cons _ r, h => by
    obtain ⟨k, h1, h2⟩ := NkAll.at r (i := i) h
    exact ⟨k, h1, h2⟩
theorem NkAll.length {H : Hp} : ∀ {ks : List NestedKey} {ys : List V}, NkAll H ks ys → ys.length = ks.length
  | _, _, .nil => rfl
  | _, _, .cons _ r => by rw [List.length_cons, List.length_cons, NkAll.length r]
theorem nk_ref {H : Hp} {l : List NestedKey} {v : V} (h : Nk H (.tup l) v) : ∃ b, v = .ref b := by
  cases h with
  | tup e r => exact ⟨_, rfl⟩
/-- what gathering promises, of a list or a tuple of pairs -/
def sp_gath (K : PySem.W.Frag) (sq : PySem.W.Frag → Hp → Addr → List V → Prop) : Sp := fun vs H Q _ => ∃ (p : Addr) (xs : List V) (l : List (NestedKey × Int)), vs = [.ref p] ∧ sq K H p xs ∧ PrAll H l xs ∧ l.length ≤ 10000 ∧ KeysOk (l.map (·.1)) ∧
  ∀ H' q ys, Same H H' → H q = none → H' q = some (.lst ys) → PrAll H' (settle l) ys → Q (.ref q) H'
theorem same_of_put {H0 H3 H4 : Hp} {a : Addr} (s : Same H0 H3) (ha : H0 a = none) (k : ∀ c u, c ≠ a → H3 c = some u → H4 c = some u) : Same H0 H4 := fun c u e => k c u (ne_of_none e ha) (s c u e)
/-- all but the list at D stays -/
def Same7 (D : Addr) (H H' : Hp) : Prop := ∀ c u, c ≠ D → H c = some u → H' c = some u
theorem prAllD {H H' : Hp} {D : Addr} {zs0 : List V} (hD : H D = some (.lst zs0)) (s : Same7 D H H') : ∀ {l : List (NestedKey × Int)} {xs : List V}, PrAll H l xs → PrAll H' l xs
  | _, _, .nil => .nil
  | _, _, .cons a b c => .cons (s _ _ (ne_of a hD (fun z => nomatch z)) a) (nkTup (fun c zs' e => s _ _ (ne_of e hD (fun z => nomatch z)) e) _ _ b) (prAllD hD s c)
theorem sq_tup {K : PySem.W.Frag} {H H' : Hp} {a : Addr} {xs : List V} (e : Same H H') (h : SqT K H a xs) : SqT K H' a xs := by
  rcases h with (h | ⟨o, h⟩) | h
  · exact .inl (.inl (e _ _ h))
  · exact .inl (.inr ⟨o, e _ _ h⟩)
  · exact .inr h

theorem ok_gathered (T : Env K mg) : FnOk P w K mg base CX0 1 T.a_gathered T.fd_gathered ["pairs"] (sp_gath K SqL) := by
  refine T.F_gathered.ok sc_gathered (fun vs H Q E h => ?_) (fun cdv A outer s H vs Q E hr h => ?_)
  · obtain ⟨p, xs, l, rfl, _⟩ := h
    rfl
  · obtain ⟨p, xs, l, rfl, hS, hP, hlen, hK, kq⟩ := h
    refine ⟨_, (pss_cons (ps_set (i := 1) sc_gathered.nd rfl (.inr rfl) (pe_dnewN (P := P) (w := w) rfl rfl))
 (pss_cons (ps_for PassesOwn.never rfl (pi_list (pv 0)) (pg_tup rfl (pgs_cons (pg_name (i := 2) sc_gathered.nd rfl (.inl rfl)) (pgs_cons (pg_name (i := 3) sc_gathered.nd rfl (.inl rfl)) pgs_nil)))
 (pss_one (ps_putN (P := P) (w := w) rfl rfl (by exact hr.units) (pv 1) (pv 2) (pe_op op_add (pe_getN (P := P) (w := w) rfl rfl (by exact hr.units) (pv 1) (pv 2) pe_int ⟨rfl, rfl, rfl, rfl⟩) (pv 3)) rfl)))
 (pss_one (ps_ret (pe_lc (own := [("key", 2)]) (by rfl) sc_gathered.nd (pi_list (pe_callB (cr_sortedN rfl (by exact hr.units)) (by rfl) T.m_sorted (by decide +kernel) (pa_cons (pv 1) pa_nil))) (blkOk_by (own := [("key", 2)]) (N := ["pairs", "totals", "key", "number"]) (sc := defScope s_gathered) (by decide +kernel)) (fun _ _ _ _ _ => (pg_name (i := 2) sc_gathered.nd rfl (.inl rfl))) (fun _ _ _ _ _ => (pts_one (pt_cmpR op_ne (pe_itemN (P := P) (w := w) rfl rfl (by exact hr.units) (pv 1) (pv 2) (fun _ _ => rfl)) pe_int (nomark _)))) (fun _ _ _ _ _ => (pe_tup (pa_cons (pv 2) (pa_cons (pe_itemN (P := P) (w := w) rfl rfl (by exact hr.units) (pv 1) (pv 2) (fun _ _ => rfl)) pa_nil))))))))), ?_⟩
    -- the dict, empty
    refine fun d hd hm => ?_
    have s1 := same_new (o := kdO P w d []) hd
    have D1 : DN P w (upd H d (kdO P w d [])) d [] := dn_new hm
    generalize upd H d (kdO P w d []) = H1 at *
    have hKt : ∀ m : List (NestedKey × Int), (∀ z ∈ m.map (·.1), z ∈ l.map (·.1)) → KeysOk ((totals m).map (·.1)) := fun m hm => hK.sub fun z hz => hm z (totals_keys m z hz)
    refine ⟨_, rfl, p, rfl, ⟨_, s1.seq hS⟩, for_list (K := K) (a := p) (xs := xs) (fun i σ H' => ∃ y2 y3, σ = [some (.ref p), some (.ref d), y2, y3] ∧ Same H H' ∧ DN P w H' d (totals (l.take i)))
      ⟨_, _, rfl, s1, by rw [List.take_zero]; exact D1⟩ (fun i σ H' _ ⟨_, _, _, s2, _⟩ => s2.seq hS) ?_ ?_⟩
    · rintro i x σ H2 hi ⟨y2, y3, rfl, s2, D2⟩
      obtain ⟨k, n, t, b, hl, rfl, ht, hb⟩ := hP.at hi
      have hk8 := hK.dep k (List.mem_map.mpr ⟨_, List.mem_of_getElem? hl, rfl⟩)
      have hb2 := Nk.mono s2 _ _ hb
      have hsm : (totals (l.take i)).length < 100000 := by
        have h1 := totals_len (l.take i)
        rw [List.length_take] at h1
        omega
      refine ⟨t, _, rfl, .inl (.inl (s2 _ _ ht)), rfl, _, _, rfl, _, _, rfl, rfl, ?_⟩
      refine ⟨_, rfl, d, _, rfl, D2, _, rfl, _, k, b, 0, D2, rfl, hb2, hk8, rfl, _, rfl, _, _, rfl, rfl, _, rfl, _, rfl, d, _, k, b, _, rfl, rfl, D2, rfl, hb2, hk8, hsm, fun H4 D4 k4 _ => ?_⟩
      refine ⟨_, _, rfl, same_of_put s2 hd k4, ?_⟩
      rw [take_more' hl, totals_more]
      exact D4
    · rintro σ H2 ⟨y2, y3, rfl, s2, D2⟩
      have hx := hP.length
      rw [hx, List.take_length] at D2
      have hKs := hKt l (fun z hz => hz)
      -- the keys in order
      have D3 := D2
      have s3 := s2
      refine ⟨_, rfl, d, d, _, rfl, .inl rfl, D3, ?_, ?_, ?_, fun q ys hq hN => ?_⟩
      · exact fun p hp => hKs.tup _ (List.mem_map_of_mem hp)
      · exact fun p hp p' hp' => hKs.alk _ (List.mem_map_of_mem hp) _ (List.mem_map_of_mem hp')
      · exact fun p hp => hKs.dep2 _ (List.mem_map_of_mem hp)
      have s4 := same_new (o := .lst ys) hq
      have hq4 : (upd H2 q (.lst ys)) q = some (.lst ys) := upd_same
      have D4 := D3.mono s4
      have hN4 : NkAll (upd H2 q (.lst ys)) (sortedKeys (totals l)) ys := NkAll.mono s4 _ _ hN
      have s5 := s3.trans s4
      generalize upd H2 q (.lst ys) = H5 at *
      refine ⟨q, rfl, ⟨_, .inl (.inl hq4)⟩, fun D hD => ?_⟩
      have nD : H D = none := s5.free hD
      refine lc_list (K := K) (a := q) (xs := ys) (fun i H' => ∃ zs, H' D = some (.lst zs) ∧ PrAll H' (((sortedKeys (totals l)).take i).filterMap (pick (totals l))) zs ∧ Same H5 H') ?_ ?_ ?_ ?_
      · refine ⟨[], upd_same, ?_, same_new hD⟩
        rw [List.take_zero]
        exact .nil
      · rintro i H' _ ⟨zs, _, _, s6⟩
        exact .inl (.inl (s6 _ _ hq4))
      · rintro i x H' hi ⟨zs, hz, hPz, s6⟩
        obtain ⟨k, hk, hkx⟩ := NkAll.at hN4 hi
        have hmem : k ∈ (totals l).map (·.1) := sortedKeys_mem.mp (List.mem_of_getElem? hk)
        obtain ⟨n, hn⟩ := lookN_some hmem
        obtain ⟨kl, rfl⟩ := hKs.tup k hmem
        obtain ⟨b, rfl⟩ := nk_ref hkx
        have hk8 := hKs.dep _ hmem
        have D6 := D4.mono s6
        have hb6 := Nk.mono s6 _ _ hkx
        have hzl : zs.length < sizeLine := by
          have h1 := hPz.length
          have h2 : ((((sortedKeys (totals l)).take i).filterMap (pick (totals l)))).length ≤ ((sortedKeys (totals l)).take i).length := List.length_filterMap_le _ _
          rw [List.length_take, sortedKeys_len] at h2
          have h3 := totals_len l
          have h4 : (20000 : Nat) < sizeLine := by decide
          omega
        refine ⟨rfl, _, rfl, _, rfl, d, _, _, b, n, rfl, D6, rfl, hb6, hk8, hn, rfl, _, rfl, ?_⟩
        have hf := filterMap_more (pick (totals l)) hk
        by_cases h0 : n = 0
        · have e0 : pick (totals l) (.tup kl) = none := by unfold pick; rw [hn]; show (if n = 0 then none else _) = none; rw [if_pos h0]
          rw [h0]
          refine iteF ?_
          refine ⟨zs, hz, ?_, s6⟩
          rw [hf, e0, Option.toList_none, List.append_nil]
          exact hPz
        · have e0 : pick (totals l) (.tup kl) = some (.tup kl, n) := by unfold pick; rw [hn]; show (if n = 0 then none else _) = _; rw [if_neg h0]
          rw [decide_eq_false (show ¬ V.int n = V.int 0 from fun z => h0 (V.int.inj z))]
          refine iteT ?_
          refine ⟨_, rfl, _, rfl, _, rfl, d, _, _, b, n, rfl, D6, rfl, hb6, hk8, hn, (by show 2 ≤ sizeLine; decide), fun t nt => ?_⟩
          have s7 := same_new (o := .tup [.ref b, .int n]) nt
          have ht7 : (upd H' t (.tup [.ref b, .int n])) t = some (.tup [.ref b, .int n]) := upd_same
          generalize upd H' t (.tup [.ref b, .int n]) = H7 at *
          have hD7 := s7 _ _ hz
          refine ⟨zs, hD7, hzl, zs ++ [.ref t], upd_same, ?_, ?_⟩
          · rw [hf, e0]
            have s8 : Same7 D H7 (upd H7 D (.lst (zs ++ [V.ref t]))) := fun c u hc e => by rw [upd_ne hc]; exact e
            refine (prAllD hD7 s8 (hPz.mono s7)).app (.cons (b := b) ?_ ?_ .nil)
            · rw [upd_ne (ne_of ht7 hD7 (fun z => nomatch z))]; exact ht7
            · exact nkTup (fun c zs' e => by rw [upd_ne (ne_of e hD7 (fun z => nomatch z))]; exact e) _ _ (Nk.mono s7 _ _ hb6)
          · intro c u e
            have hc : c ≠ D := ne_of_none e hD
            rw [upd_ne hc]
            exact s7 _ _ (s6 _ _ e)
      · rintro H' ⟨zs, hz, hPz, s6⟩
        rw [show ys.length = (sortedKeys (totals l)).length from NkAll.length hN4, List.take_length] at hPz
        exact kq H' D zs (s5.trans s6) nD hz hPz

theorem ok__law_settled (T : Env K mg) : FnOk P w K mg base CX0 1 T.a__law_settled T.fd__law_settled ["_law_terms"] (sp_gath K SqL) := by
  refine T.F__law_settled.ok sc__law_settled (fun vs H Q E h => ?_) (fun cdv A outer s H vs Q E hr h => ?_)
  · obtain ⟨p, xs, l, rfl, _⟩ := h
    rfl
  · obtain ⟨p, xs, l, rfl, hS, hP, hlen, hK, kq⟩ := h
    refine ⟨_, (pss_cons (ps_set (i := 1) sc__law_settled.nd rfl (.inr rfl) (pe_dnewN (P := P) (w := w) rfl rfl))
 (pss_cons (ps_for PassesOwn.never rfl (pi_list (pv 0)) (pg_tup rfl (pgs_cons (pg_name (i := 2) sc__law_settled.nd rfl (.inl rfl)) (pgs_cons (pg_name (i := 3) sc__law_settled.nd rfl (.inl rfl)) pgs_nil)))
 (pss_one (ps_putN (P := P) (w := w) rfl rfl (by exact hr.units) (pv 1) (pv 2) (pe_op op_add (pe_getN (P := P) (w := w) rfl rfl (by exact hr.units) (pv 1) (pv 2) pe_int ⟨rfl, rfl, rfl, rfl⟩) (pv 3)) rfl)))
 (pss_one (ps_ret (pe_lc (own := [("_law_row", 2)]) (by rfl) sc__law_settled.nd (pi_list (pe_callB (cr_sortedN rfl (by exact hr.units)) (by rfl) T.m_sorted (by decide +kernel) (pa_cons (pe_keysN (pv 1)) pa_nil))) (blkOk_by (own := [("_law_row", 2)]) (N := ["_law_terms", "_law_counts", "_law_row", "_law_count"]) (sc := defScope s__law_settled) (by decide +kernel)) (fun _ _ _ _ _ => (pg_name (i := 2) sc__law_settled.nd rfl (.inl rfl))) (fun _ _ _ _ _ => (pts_one (pt_cmpR op_ne (pe_itemN (P := P) (w := w) rfl rfl (by exact hr.units) (pv 1) (pv 2) (fun _ _ => rfl)) pe_int (nomark _)))) (fun _ _ _ _ _ => (pe_tup (pa_cons (pv 2) (pa_cons (pe_itemN (P := P) (w := w) rfl rfl (by exact hr.units) (pv 1) (pv 2) (fun _ _ => rfl)) pa_nil))))))))), ?_⟩
    -- the dict, empty
    refine fun d hd hm => ?_
    have s1 := same_new (o := kdO P w d []) hd
    have D1 : DN P w (upd H d (kdO P w d [])) d [] := dn_new hm
    generalize upd H d (kdO P w d []) = H1 at *
    have hKt : ∀ m : List (NestedKey × Int), (∀ z ∈ m.map (·.1), z ∈ l.map (·.1)) → KeysOk ((totals m).map (·.1)) := fun m hm => hK.sub fun z hz => hm z (totals_keys m z hz)
    refine ⟨_, rfl, p, rfl, ⟨_, s1.seq hS⟩, for_list (K := K) (a := p) (xs := xs) (fun i σ H' => ∃ y2 y3, σ = [some (.ref p), some (.ref d), y2, y3] ∧ Same H H' ∧ DN P w H' d (totals (l.take i)))
      ⟨_, _, rfl, s1, by rw [List.take_zero]; exact D1⟩ (fun i σ H' _ ⟨_, _, _, s2, _⟩ => s2.seq hS) ?_ ?_⟩
    · rintro i x σ H2 hi ⟨y2, y3, rfl, s2, D2⟩
      obtain ⟨k, n, t, b, hl, rfl, ht, hb⟩ := hP.at hi
      have hk8 := hK.dep k (List.mem_map.mpr ⟨_, List.mem_of_getElem? hl, rfl⟩)
      have hb2 := Nk.mono s2 _ _ hb
      have hsm : (totals (l.take i)).length < 100000 := by
        have h1 := totals_len (l.take i)
        rw [List.length_take] at h1
        omega
      refine ⟨t, _, rfl, .inl (.inl (s2 _ _ ht)), rfl, _, _, rfl, _, _, rfl, rfl, ?_⟩
      refine ⟨_, rfl, d, _, rfl, D2, _, rfl, _, k, b, 0, D2, rfl, hb2, hk8, rfl, _, rfl, _, _, rfl, rfl, _, rfl, _, rfl, d, _, k, b, _, rfl, rfl, D2, rfl, hb2, hk8, hsm, fun H4 D4 k4 _ => ?_⟩
      refine ⟨_, _, rfl, same_of_put s2 hd k4, ?_⟩
      rw [take_more' hl, totals_more]
      exact D4
    · rintro σ H2 ⟨y2, y3, rfl, s2, D2⟩
      have hx := hP.length
      rw [hx, List.take_length] at D2
      have hKs := hKt l (fun z hz => hz)
      -- the keys in order
      refine ⟨_, rfl, d, _, rfl, D2, fun v hv => ?_⟩
      have sv := same_new (o := keysO v d) hv
      have fv : (upd H2 v (keysO v d)) v = some (keysO v d) := upd_same
      have D3 := D2.mono sv
      have s3 := s2.trans sv
      generalize upd H2 v (keysO v d) = H3 at *
      refine ⟨v, d, _, rfl, .inr fv, D3, ?_, ?_, ?_, fun q ys hq hN => ?_⟩
      · exact fun p hp => hKs.tup _ (List.mem_map_of_mem hp)
      · exact fun p hp p' hp' => hKs.alk _ (List.mem_map_of_mem hp) _ (List.mem_map_of_mem hp')
      · exact fun p hp => hKs.dep2 _ (List.mem_map_of_mem hp)
      have s4 := same_new (o := .lst ys) hq
      have hq4 : (upd H3 q (.lst ys)) q = some (.lst ys) := upd_same
      have D4 := D3.mono s4
      have hN4 : NkAll (upd H3 q (.lst ys)) (sortedKeys (totals l)) ys := NkAll.mono s4 _ _ hN
      have s5 := s3.trans s4
      generalize upd H3 q (.lst ys) = H5 at *
      refine ⟨q, rfl, ⟨_, .inl (.inl hq4)⟩, fun D hD => ?_⟩
      have nD : H D = none := s5.free hD
      refine lc_list (K := K) (a := q) (xs := ys) (fun i H' => ∃ zs, H' D = some (.lst zs) ∧ PrAll H' (((sortedKeys (totals l)).take i).filterMap (pick (totals l))) zs ∧ Same H5 H') ?_ ?_ ?_ ?_
      · refine ⟨[], upd_same, ?_, same_new hD⟩
        rw [List.take_zero]
        exact .nil
      · rintro i H' _ ⟨zs, _, _, s6⟩
        exact .inl (.inl (s6 _ _ hq4))
      · rintro i x H' hi ⟨zs, hz, hPz, s6⟩
        obtain ⟨k, hk, hkx⟩ := NkAll.at hN4 hi
        have hmem : k ∈ (totals l).map (·.1) := sortedKeys_mem.mp (List.mem_of_getElem? hk)
        obtain ⟨n, hn⟩ := lookN_some hmem
        obtain ⟨kl, rfl⟩ := hKs.tup k hmem
        obtain ⟨b, rfl⟩ := nk_ref hkx
        have hk8 := hKs.dep _ hmem
        have D6 := D4.mono s6
        have hb6 := Nk.mono s6 _ _ hkx
        have hzl : zs.length < sizeLine := by
          have h1 := hPz.length
          have h2 : ((((sortedKeys (totals l)).take i).filterMap (pick (totals l)))).length ≤ ((sortedKeys (totals l)).take i).length := List.length_filterMap_le _ _
          rw [List.length_take, sortedKeys_len] at h2
          have h3 := totals_len l
          have h4 : (20000 : Nat) < sizeLine := by decide
          omega
        refine ⟨rfl, _, rfl, _, rfl, d, _, _, b, n, rfl, D6, rfl, hb6, hk8, hn, rfl, _, rfl, ?_⟩
        have hf := filterMap_more (pick (totals l)) hk
        by_cases h0 : n = 0
        · have e0 : pick (totals l) (.tup kl) = none := by unfold pick; rw [hn]; show (if n = 0 then none else _) = none; rw [if_pos h0]
          rw [h0]
          refine iteF ?_
          refine ⟨zs, hz, ?_, s6⟩
          rw [hf, e0, Option.toList_none, List.append_nil]
          exact hPz
        · have e0 : pick (totals l) (.tup kl) = some (.tup kl, n) := by unfold pick; rw [hn]; show (if n = 0 then none else _) = _; rw [if_neg h0]
          rw [decide_eq_false (show ¬ V.int n = V.int 0 from fun z => h0 (V.int.inj z))]
          refine iteT ?_
          refine ⟨_, rfl, _, rfl, _, rfl, d, _, _, b, n, rfl, D6, rfl, hb6, hk8, hn, (by show 2 ≤ sizeLine; decide), fun t nt => ?_⟩
          have s7 := same_new (o := .tup [.ref b, .int n]) nt
          have ht7 : (upd H' t (.tup [.ref b, .int n])) t = some (.tup [.ref b, .int n]) := upd_same
          generalize upd H' t (.tup [.ref b, .int n]) = H7 at *
          have hD7 := s7 _ _ hz
          refine ⟨zs, hD7, hzl, zs ++ [.ref t], upd_same, ?_, ?_⟩
          · rw [hf, e0]
            have s8 : Same7 D H7 (upd H7 D (.lst (zs ++ [V.ref t]))) := fun c u hc e => by rw [upd_ne hc]; exact e
            refine (prAllD hD7 s8 (hPz.mono s7)).app (.cons (b := b) ?_ ?_ .nil)
            · rw [upd_ne (ne_of ht7 hD7 (fun z => nomatch z))]; exact ht7
            · exact nkTup (fun c zs' e => by rw [upd_ne (ne_of e hD7 (fun z => nomatch z))]; exact e) _ _ (Nk.mono s7 _ _ hb6)
          · intro c u e
            have hc : c ≠ D := ne_of_none e hD
            rw [upd_ne hc]
            exact s7 _ _ (s6 _ _ e)
      · rintro H' ⟨zs, hz, hPz, s6⟩
        rw [show ys.length = (sortedKeys (totals l)).length from NkAll.length hN4, List.take_length] at hPz
        exact kq H' D zs (s5.trans s6) nD hz hPz

/-! ### the one form: the mathematics -/
section
open PySem.W PySem.Calls
mutual
theorem eqv_kdat : ∀ a b : NestedKey, PyData.eqv (kdat a) (kdat b) = true → a = b
  | .none, .none, _ => rfl
  | .num a, .num b, h => by simp [kdat, PyData.eqv] at h; rw [h]
  | .text a, .text b, h => by simp [kdat, PyData.eqv] at h; rw [h]
  | .tup a, .tup b, h => by simp only [kdat, PyData.eqv] at h; rw [eqv_kdats a b h]
  | .none, .num _, h => by simp [kdat, PyData.eqv] at h
  | .none, .text _, h => by simp [kdat, PyData.eqv] at h
  | .none, .tup _, h => by simp [kdat, PyData.eqv] at h
  | .num _, .none, h => by simp [kdat, PyData.eqv] at h
  | .num _, .text _, h => by simp [kdat, PyData.eqv] at h
  | .num _, .tup _, h => by simp [kdat, PyData.eqv] at h
  | .text _, .none, h => by simp [kdat, PyData.eqv] at h
  | .text _, .num _, h => by simp [kdat, PyData.eqv] at h
  | .text _, .tup _, h => by simp [kdat, PyData.eqv] at h
  | .tup _, .none, h => by simp [kdat, PyData.eqv] at h
  | .tup _, .num _, h => by simp [kdat, PyData.eqv] at h
  | .tup _, .text _, h => by simp [kdat, PyData.eqv] at h
theorem eqv_kdats : ∀ a b : List NestedKey, PyData.eqvAll (kdats a) (kdats b) = true → a = b
  | [], [], _ => rfl
  | a :: as, b :: bs, h => by
    simp only [kdats, PyData.eqvAll, Bool.and_eq_true] at h
    rw [eqv_kdat a b h.1, eqv_kdats as bs h.2]
  | [], _ :: _, h => by simp [kdats, PyData.eqvAll] at h
  | _ :: _, [], h => by simp [kdats, PyData.eqvAll] at h
end
theorem toks_inj {a b : PyData} (hal : alike a b = true) (h : keyToks a = keyToks b) : PyData.eqv a b = true := by
  cases e : PyData.eqv a b with
  | true => rfl
  | false =>
    have := (toks_eqv a b hal).2 e [] [Sum.inl 0]
    rw [h, PyProof.Rows.lex_irrefl, PySem.W.lex_pre] at this
    exact absurd this (by decide)
theorem lt_total {a b : NestedKey} (hal : alike (kdat a) (kdat b) = true) (hne : a ≠ b) (h : dataLt (kdat b) (kdat a) = false) : dataLt (kdat a) (kdat b) = true := by
  cases e : dataLt (kdat a) (kdat b) with
  | true => rfl
  | false => exact absurd (eqv_kdat a b (toks_inj hal (PyProof.Rows.lex_total _ _ e h))) hne
theorem totals_nodup (l : List (NestedKey × Int)) : ((totals l).map (·.1)).Nodup := by
  have key : ∀ (l a : List (NestedKey × Int)), (a.map (·.1)).Nodup → ((l.foldl (fun d p => putN d p.1 ((lookN d p.1).getD 0 + p.2)) a).map (·.1)).Nodup := by
    intro l
    induction l with
    | nil => intro a h; exact h
    | cons p l ih => intro a h; exact ih _ (putN_nodup h)
  exact key l [] List.nodup_nil
/-- one key stands ahead of the other -/
def KLt (a b : NestedKey) : Prop := dataLt (kdat a) (kdat b) = true
theorem sorted_asc {kvs : List (NestedKey × Int)} (hn : (kvs.map (·.1)).Nodup) (hal : ∀ a ∈ kvs.map (·.1), ∀ b ∈ kvs.map (·.1), alike (kdat a) (kdat b) = true) : (sortedKeys kvs).Pairwise KLt := by
  have h1 : (sortedKeys kvs).Pairwise (fun a b => dataLe false kdat a b = true) := sort_pairwise (sortLe_total _ _ _) _
  have h2 : (sortedKeys kvs).Pairwise (fun a b => a ≠ b) := ((List.mergeSort_perm _ _).nodup_iff).mpr hn
  have h3 := h1.and h2
  refine h3.imp_of_mem fun {a b} ha hb h => ?_
  have h4 : dataLe false kdat a b = true := h.1
  rw [dataLe_eq] at h4
  have h5 : (!dataLt (kdat b) (kdat a)) = true := h4
  exact lt_total (hal a (sortedKeys_mem.mp ha) b (sortedKeys_mem.mp hb)) h.2 (by simpa using h5)
theorem pick_some {kvs : List (NestedKey × Int)} {k : NestedKey} {p : NestedKey × Int} (h : pick kvs k = some p) : p.1 = k ∧ p.2 ≠ 0 := by
  unfold pick at h
  split at h
  · split at h
    · cases h
    · cases h
      exact ⟨rfl, by assumption⟩
  · cases h
theorem settle_keys {l : List (NestedKey × Int)} {p : NestedKey × Int} (h : p ∈ settle l) : p.1 ∈ l.map (·.1) ∧ p.2 ≠ 0 := by
  obtain ⟨k, hk, hp⟩ := List.mem_filterMap.mp h
  obtain ⟨e1, e2⟩ := pick_some hp
  rw [e1]
  exact ⟨totals_keys l k (sortedKeys_mem.mp hk), e2⟩
theorem settle_len (l : List (NestedKey × Int)) : (settle l).length ≤ l.length := by
  have h1 : (settle l).length ≤ (sortedKeys (totals l)).length := List.length_filterMap_le _ _
  rw [sortedKeys_len] at h1
  exact Nat.le_trans h1 (totals_len l)
theorem settle_asc {l : List (NestedKey × Int)} (hK : KeysOk (l.map (·.1))) : ((settle l).map (·.1)).Pairwise KLt := by
  rw [List.pairwise_map]
  refine (sorted_asc (totals_nodup l) (fun a ha b hb => hK.alk a (totals_keys l a ha) b (totals_keys l b hb))).filterMap _ fun a b h p hp q hq => ?_
  rw [(pick_some hp).1, (pick_some hq).1]
  exact h
/-! marks, rows, sums -/
def markK (a b : Int) : NestedKey := .tup [.num a, .num b]
def pairK (p : NestedKey × Int) : NestedKey := .tup [p.1, .num p.2]
def rowK (l : List (NestedKey × Int)) : NestedKey := .tup (l.map pairK)
def unpair : NestedKey → Option (NestedKey × Int)
  | .tup [k, .num n] => some (k, n)
  | _ => none
def unrow : NestedKey → List (NestedKey × Int)
  | .tup ks => ks.filterMap unpair
  | _ => []
theorem unrow_row (l : List (NestedKey × Int)) : unrow (rowK l) = l := by
  show (l.map pairK).filterMap unpair = l
  rw [List.filterMap_map]
  have : (unpair ∘ pairK) = some := by funext p; rfl
  rw [this]
  exact List.filterMap_some
def IsMark (k : NestedKey) : Prop := ∃ a b : Int, k = markK a b
structure RowOk (l : List (NestedKey × Int)) : Prop where
  len : l.length ≤ 10000
  rk : ∀ p ∈ l, IsMark p.1
  nz : ∀ p ∈ l, p.2 ≠ 0
  asc : (l.map (·.1)).Pairwise KLt
def IsRow (k : NestedKey) : Prop := ∃ l, k = rowK l ∧ RowOk l
structure SumOk (l : List (NestedKey × Int)) : Prop where
  len : l.length ≤ 10000
  rk : ∀ p ∈ l, IsRow p.1
  nz : ∀ p ∈ l, p.2 ≠ 0
  asc : (l.map (·.1)).Pairwise KLt
theorem alike_mark (a b c d : Int) : alike (kdat (markK a b)) (kdat (markK c d)) = true := by
  simp [markK, kdat, kdats, alike, alikeAll]
theorem alike_rows : ∀ l m : List (NestedKey × Int), (∀ p ∈ l, IsMark p.1) → (∀ p ∈ m, IsMark p.1) → alikeAll (kdats (l.map pairK)) (kdats (m.map pairK)) = true
  | [], _, _, _ => by rw [List.map_nil, kdats, alikeAll]
  | _ :: _, [], _, _ => by rw [List.map_nil, List.map_cons, kdats, kdats, alikeAll]
  | p :: l, q :: m, h1, h2 => by
    obtain ⟨a, b, e1⟩ := h1 p (List.mem_cons_self ..)
    obtain ⟨c, d, e2⟩ := h2 q (List.mem_cons_self ..)
    have ih := alike_rows l m (fun x hx => h1 x (List.mem_cons_of_mem _ hx)) (fun x hx => h2 x (List.mem_cons_of_mem _ hx))
    rw [List.map_cons, List.map_cons, kdats, kdats, alikeAll, ih, Bool.and_true]
    rw [pairK, pairK, e1, e2]
    simp [markK, kdat, kdats, alike, alikeAll]
theorem alike_row {l m : List (NestedKey × Int)} (h1 : ∀ p ∈ l, IsMark p.1) (h2 : ∀ p ∈ m, IsMark p.1) : alike (kdat (rowK l)) (kdat (rowK m)) = true := by
  rw [rowK, rowK, kdat, kdat, alike]
  exact alike_rows l m h1 h2
theorem keysMark {ks : List NestedKey} (h : ∀ k ∈ ks, IsMark k) : KeysOk ks where
  tup k hk := by obtain ⟨a, b, rfl⟩ := h k hk; exact ⟨_, rfl⟩
  dep k hk := by obtain ⟨a, b, rfl⟩ := h k hk; exact (by decide : (1 : Nat) ≤ 8)
  dep2 k hk := by
    obtain ⟨a, b, rfl⟩ := h k hk
    simp [markK, kdat, kdats, PyData.depth, PyData.depthAll]
  alk k hk k' hk' := by
    obtain ⟨a, b, rfl⟩ := h k hk
    obtain ⟨c, d, rfl⟩ := h k' hk'
    exact alike_mark a b c d
theorem depth_row {l : List (NestedKey × Int)} (h : ∀ p ∈ l, IsMark p.1) : NestedKey.depthAll (l.map pairK) ≤ 2 ∧ PyData.depthAll (kdats (l.map pairK)) ≤ 2 := by
  induction l with
  | nil => exact ⟨Nat.zero_le _, by simp [kdats, PyData.depthAll]⟩
  | cons p l ih =>
    obtain ⟨a, b, e⟩ := h p (List.mem_cons_self ..)
    obtain ⟨i1, i2⟩ := ih fun x hx => h x (List.mem_cons_of_mem _ hx)
    rw [List.map_cons, kdats, pairK, e]
    constructor
    · simp only [NestedKey.depthAll, NestedKey.depth, markK]
      omega
    · simp only [PyData.depthAll, PyData.depth, markK, kdat, kdats]
      omega
theorem keysRow {ks : List NestedKey} (h : ∀ k ∈ ks, IsRow k) : KeysOk ks where
  tup k hk := by obtain ⟨l, rfl, _⟩ := h k hk; exact ⟨_, rfl⟩
  dep k hk := by
    obtain ⟨l, rfl, hl⟩ := h k hk
    have := (depth_row hl.rk).1
    show NestedKey.depthAll (l.map pairK) + 1 ≤ 8
    omega
  dep2 k hk := by
    obtain ⟨l, rfl, hl⟩ := h k hk
    have := (depth_row hl.rk).2
    rw [rowK, kdat, PyData.depth]
    omega
  alk k hk k' hk' := by
    obtain ⟨l, rfl, hl⟩ := h k hk
    obtain ⟨m, rfl, hm⟩ := h k' hk'
    exact alike_row hl.rk hm.rk
theorem settle_row {l : List (NestedKey × Int)} (hl : l.length ≤ 10000) (h : ∀ p ∈ l, IsMark p.1) : RowOk (settle l) where
  len := Nat.le_trans (settle_len l) hl
  rk p hp := by
    obtain ⟨q, hq, e⟩ := List.mem_map.mp (settle_keys hp).1
    rw [← e]
    exact h q hq
  nz p hp := (settle_keys hp).2
  asc := settle_asc (keysMark fun k hk => by obtain ⟨q, hq, rfl⟩ := List.mem_map.mp hk; exact h q hq)
theorem settle_sum {l : List (NestedKey × Int)} (hl : l.length ≤ 10000) (h : ∀ p ∈ l, IsRow p.1) : SumOk (settle l) where
  len := Nat.le_trans (settle_len l) hl
  rk p hp := by
    obtain ⟨q, hq, e⟩ := List.mem_map.mp (settle_keys hp).1
    rw [← e]
    exact h q hq
  nz p hp := (settle_keys hp).2
  asc := settle_asc (keysRow fun k hk => by obtain ⟨q, hq, rfl⟩ := List.mem_map.mp hk; exact h q hq)
theorem RowOk.keys {l : List (NestedKey × Int)} (h : RowOk l) : KeysOk (l.map (·.1)) := keysMark fun k hk => by obtain ⟨q, hq, rfl⟩ := List.mem_map.mp hk; exact h.rk q hq
theorem SumOk.keys {l : List (NestedKey × Int)} (h : SumOk l) : KeysOk (l.map (·.1)) := keysRow fun k hk => by obtain ⟨q, hq, rfl⟩ := List.mem_map.mp hk; exact h.rk q hq
theorem asc_at {l : List (NestedKey × Int)} (h : (l.map (·.1)).Pairwise KLt) {i : Nat} {p q : NestedKey × Int} (h1 : l[i]? = some p) (h2 : l[i + 1]? = some q) : KLt p.1 q.1 := by
  obtain ⟨g1, e1⟩ := List.getElem?_eq_some_iff.mp h1
  obtain ⟨g2, e2⟩ := List.getElem?_eq_some_iff.mp h2
  have := (List.pairwise_iff_getElem.mp h) i (i + 1) (by rw [List.length_map]; exact g1) (by rw [List.length_map]; exact g2) (by omega)
  rw [List.getElem_map, List.getElem_map, e1, e2] at this
  exact this
theorem SumOk.nil : SumOk [] := ⟨Nat.zero_le _, fun p h => (by cases h), fun p h => (by cases h), List.Pairwise.nil⟩
theorem RowOk.nil : RowOk [] := ⟨Nat.zero_le _, fun p h => (by cases h), fun p h => (by cases h), List.Pairwise.nil⟩
theorem RowOk.one (a b : Int) {n : Int} (hn : n ≠ 0) : RowOk [(markK a b, n)] := ⟨(by show 1 ≤ 10000; decide), fun p h => (by rw [List.mem_singleton.mp h]; exact ⟨a, b, rfl⟩), fun p h => (by rw [List.mem_singleton.mp h]; exact hn), List.pairwise_singleton ..⟩
theorem SumOk.one {k : NestedKey} (h : IsRow k) {n : Int} (hn : n ≠ 0) : SumOk [(k, n)] := ⟨(by show 1 ≤ 10000; decide), fun p h' => (by rw [List.mem_singleton.mp h']; exact h), fun p h' => (by rw [List.mem_singleton.mp h']; exact hn), List.pairwise_singleton ..⟩
theorem SumOk.neg {l : List (NestedKey × Int)} (h : SumOk l) : SumOk (l.map fun p => (p.1, -p.2)) where
  len := by rw [List.length_map]; exact h.len
  rk p hp := by obtain ⟨q, hq, rfl⟩ := List.mem_map.mp hp; exact h.rk q hq
  nz p hp := by obtain ⟨q, hq, rfl⟩ := List.mem_map.mp hp; have := h.nz q hq; show -q.2 ≠ 0; omega
  asc := by rw [List.map_map]; exact h.asc
/-! rows and pairs in the heap -/
theorem PrAll.row {H : Hp} : ∀ {l : List (NestedKey × Int)} {xs : List V}, PrAll H l xs → NkAll H (l.map pairK) xs
  | _, _, .nil => .nil
  | _, _, .cons a b c => .cons (.tup a (.cons b (.cons (.num _) .nil))) c.row
theorem PrAll.key {H : Hp} {l : List (NestedKey × Int)} {xs : List V} {q : Addr} (h : PrAll H l xs) (e : H q = some (.tup xs)) : Nk H (rowK l) (.ref q) := .tup e h.row
theorem PrAll.of_row {H : Hp} : ∀ {l : List (NestedKey × Int)} {xs : List V}, (∀ p ∈ l, IsMark p.1) → NkAll H (l.map pairK) xs → PrAll H l xs
  | [], _, _, h => by cases h; exact .nil
  | p :: l, _, hm, h => by
    cases h with
    | cons a b =>
      cases a with
      | tup e r =>
        cases r with
        | cons r1 r2 =>
          cases r2 with
          | cons r3 r4 =>
            cases r3
            cases r4
            obtain ⟨x, y, ek⟩ := hm p (List.mem_cons_self ..)
            have r1' := r1
            rw [ek] at r1'
            obtain ⟨c, rfl⟩ := nk_ref r1'
            exact .cons e r1 (PrAll.of_row (fun x hx => hm x (List.mem_cons_of_mem _ hx)) b)
theorem nk_row {H : Hp} {l : List (NestedKey × Int)} {b : Addr} (hm : ∀ p ∈ l, IsMark p.1) (h : Nk H (rowK l) (.ref b)) : ∃ xs, H b = some (.tup xs) ∧ PrAll H l xs := by
  cases h with
  | tup e r => exact ⟨_, e, PrAll.of_row hm r⟩
theorem nk_mark {H : Hp} {x y : Int} {b : Addr} (h : Nk H (markK x y) (.ref b)) : H b = some (.tup [.int x, .int y]) := by
  cases h with
  | tup e r =>
    cases r with
    | cons r1 r2 =>
      cases r1
      cases r2 with
      | cons r3 r4 =>
        cases r3
        cases r4
        exact e
def pdat (p : NestedKey × Int) : PyData := .tuple [kdat p.1, .int p.2]
theorem PrAll.dp {K : PySem.W.Frag} {H : Hp} : ∀ {l : List (NestedKey × Int)} {xs : List V}, PrAll H l xs → DpAll K H xs (l.map pdat)
  | _, _, .nil => .nil
  | _, _, .cons a b c => .cons (.tup (.inl (.inl a)) (.cons (Nk.dp _ _ b) (.cons (.int _) .nil))) c.dp
theorem lay_row {l : List (NestedKey × Int)} (h : ∀ p ∈ l, IsMark p.1) : PyData.canLayAll0 (kdats (l.map pairK)) = true := by
  induction l with
  | nil => rfl
  | cons p l ih =>
    obtain ⟨a, b, e⟩ := h p (List.mem_cons_self ..)
    rw [List.map_cons, kdats, pairK, e, PyData.canLayAll0, ih fun x hx => h x (List.mem_cons_of_mem _ hx)]
    rfl
theorem sum_data {l : List (NestedKey × Int)} (h : ∀ p ∈ l, IsRow p.1) : PyData.canLayAll0 (l.map pdat) = true ∧ PyData.depthAll (l.map pdat) ≤ 5 := by
  induction l with
  | nil => exact ⟨rfl, by simp [PyData.depthAll]⟩
  | cons p l ih =>
    obtain ⟨m, e, hm⟩ := h p (List.mem_cons_self ..)
    obtain ⟨i1, i2⟩ := ih fun x hx => h x (List.mem_cons_of_mem _ hx)
    have h1 := lay_row hm.rk
    have h2 := (depth_row hm.rk).2
    rw [List.map_cons, pdat, e, rowK, kdat]
    constructor
    · rw [PyData.canLayAll0, i1, Bool.and_true]
      simp only [PyData.canLay0, PyData.canLayAll0, h1, Bool.and_self]
    · simp only [PyData.depthAll, PyData.depth]
      omega
theorem sum_shaped {l : List (NestedKey × Int)} (h : SumOk l) : SeqAt.shaped (.list (l.map pdat)) = true := by
  obtain ⟨h1, h2⟩ := sum_data h.rk
  unfold SeqAt.shaped
  rw [Bool.and_eq_true]
  exact ⟨by simp only [PyData.canLay0, h1], decide_eq_true (by rw [PyData.depth]; omega)⟩
theorem two_shaped {l m : List (NestedKey × Int)} (h : SumOk l) (h' : SumOk m) : SeqAt.shaped (.list [.list (l.map pdat), .list (m.map pdat)]) = true := by
  obtain ⟨h1, h2⟩ := sum_data h.rk
  obtain ⟨g1, g2⟩ := sum_data h'.rk
  unfold SeqAt.shaped
  rw [Bool.and_eq_true]
  exact ⟨by simp only [PyData.canLay0, PyData.canLayAll0, h1, g1, Bool.and_self], decide_eq_true (by simp only [PyData.depth, PyData.depthAll]; omega)⟩
end
/-! ### a >= b of nested tuples -/
section
open PySem.W PySem.Calls
variable {X : Cx}
def rGeN : R2 := fun x y H Q => ∃ a b k k', x = .ref a ∧ y = .ref b ∧ Nk H (.tup k) (.ref a) ∧ Nk H (.tup k') (.ref b) ∧ alike (kdat (.tup k)) (kdat (.tup k')) = true ∧ (kdat (.tup k)).depth ≤ 8 ∧ Q (.bl (!dataLt (kdat (.tup k)) (kdat (.tup k')))) H
theorem op_geN (hu : X.A.units + 64 < cLine) : OpR X (compareOp .GtE) rGeN := by
  intro pins s σ H x y v u Q I rx ry h
  obtain ⟨a, b, k, k', rfl, rfl, ha, hb, hal, hd, q⟩ := h
  have r1 := Nk.reads I.hok _ _ _ ha rx
  have r2 := Nk.reads I.hok _ _ _ hb ry
  have hm : min (kdat (.tup k)).depth (kdat (.tup k')).depth ≤ (kdat (.tup k)).depth := Nat.min_le_left _ _
  exact ge_data r1 r2 hal (by rw [kdat]; exact fun z => nomatch z) (by omega) ⟨.bl _, H, I, rfl, q⟩
end

/-! ### settling in any order -/
section
open PySem.W PySem.Calls
def cnt (l : List (NestedKey × Int)) (k : NestedKey) : Int := (l.map fun p => if p.1 = k then p.2 else 0).sum
theorem cnt_cons (p : NestedKey × Int) (l : List (NestedKey × Int)) (k : NestedKey) : cnt (p :: l) k = (if p.1 = k then p.2 else 0) + cnt l k := by
  unfold cnt
  rw [List.map_cons, List.sum_cons]
theorem cnt_perm {l m : List (NestedKey × Int)} (h : l.Perm m) (k : NestedKey) : cnt l k = cnt m k := by
  induction h with
  | nil => rfl
  | cons p _ ih => rw [cnt_cons, cnt_cons, ih]
  | swap p q l => rw [cnt_cons, cnt_cons, cnt_cons, cnt_cons]; omega
  | trans _ _ h1 h2 => rw [h1, h2]
theorem lookN_cons (p : NestedKey × Int) (l : List (NestedKey × Int)) (k : NestedKey) : lookN (p :: l) k = if p.1 = k then some p.2 else lookN l k := by
  unfold lookN
  by_cases h : p.1 = k
  · rw [List.find?_cons_of_pos (by simp [h]), if_pos h]; rfl
  · rw [List.find?_cons_of_neg (by simp [h]), if_neg h]
theorem lookN_map (k0 : NestedKey) (n : Int) (k : NestedKey) : ∀ l : List (NestedKey × Int), lookN (l.map fun p => if p.1 = k0 then (p.1, n) else p) k = if k0 = k then (lookN l k).map (fun _ => n) else lookN l k
  | [] => by
    show (none : Option Int) = if k0 = k then none else none
    split <;> rfl
  | p :: l => by
    have ih := lookN_map k0 n k l
    rw [List.map_cons, lookN_cons, lookN_cons, ih]
    by_cases h1 : p.1 = k0
    · rw [if_pos h1]
      by_cases h2 : k0 = k
      · rw [if_pos (h1.trans h2), if_pos (h1.trans h2), if_pos h2]; rfl
      · have h3 : ¬ p.1 = k := fun e => h2 (h1.symm.trans e)
        rw [if_neg h3, if_neg h3, if_neg h2]
    · rw [if_neg h1]
      by_cases h2 : p.1 = k
      · have h3 : ¬ k0 = k := fun e => h1 (h2.trans e.symm)
        rw [if_pos h2, if_neg h3, if_pos h2]
      · rw [if_neg h2, if_neg h2]
theorem lookN_app (l : List (NestedKey × Int)) (k0 : NestedKey) (n : Int) (k : NestedKey) (h : lookN l k0 = none) : lookN (l ++ [(k0, n)]) k = if k0 = k then some n else lookN l k := by
  induction l with
  | nil => rw [List.nil_append, lookN_cons]
  | cons p l ih =>
    rw [lookN_cons] at h
    by_cases e : p.1 = k0
    · rw [if_pos e] at h; cases h
    · rw [if_neg e] at h
      rw [List.cons_append, lookN_cons, lookN_cons, ih h]
      by_cases h2 : p.1 = k
      · have h3 : ¬ k0 = k := fun e' => e (h2.trans e'.symm)
        rw [if_pos h2, if_neg h3, if_pos h2]
      · rw [if_neg h2, if_neg h2]
theorem lookN_put (l : List (NestedKey × Int)) (k0 : NestedKey) (n : Int) (k : NestedKey) : lookN (putN l k0 n) k = if k0 = k then some n else lookN l k := by
  unfold putN
  cases e : lookN l k0 with
  | some m =>
    show lookN (if true = true then _ else _) k = _
    rw [if_pos rfl, lookN_map]
    by_cases h : k0 = k
    · subst h
      rw [if_pos rfl, if_pos rfl, e]
      rfl
    · rw [if_neg h, if_neg h]
  | none =>
    show lookN (if false = true then _ else _) k = _
    rw [if_neg Bool.false_ne_true]
    exact lookN_app l k0 n k e
theorem look_fold (k : NestedKey) : ∀ (l a : List (NestedKey × Int)), lookN (l.foldl (fun d p => putN d p.1 ((lookN d p.1).getD 0 + p.2)) a) k = if k ∈ l.map (·.1) then some ((lookN a k).getD 0 + cnt l k) else lookN a k
  | [], a => by rw [if_neg (by simp)]; rfl
  | p :: l, a => by
    rw [List.foldl_cons, look_fold k l, lookN_put, cnt_cons]
    by_cases h : p.1 = k
    · subst h
      rw [if_pos rfl, if_pos rfl, if_pos (show p.1 ∈ (p :: l).map (·.1) from List.mem_cons_self ..)]
      by_cases h2 : p.1 ∈ l.map (·.1)
      · rw [if_pos h2, Option.getD_some, Int.add_assoc]
      · rw [if_neg h2]
        have : cnt l p.1 = 0 := by
          clear a
          induction l with
          | nil => rfl
          | cons q l ih =>
            rw [List.map_cons, List.mem_cons, not_or] at h2
            rw [cnt_cons, if_neg (fun e => h2.1 e.symm), ih h2.2]
            rfl
        rw [this, Int.add_zero]
    · rw [if_neg h, if_neg h]
      have hm : (k ∈ (p :: l).map (·.1)) ↔ k ∈ l.map (·.1) := by
        rw [List.map_cons, List.mem_cons]
        exact ⟨fun z => z.elim (fun e => absurd e.symm h) id, .inr⟩
      by_cases h2 : k ∈ l.map (·.1)
      · rw [if_pos h2, if_pos (hm.mpr h2), Int.zero_add]
      · rw [if_neg h2, if_neg (fun z => h2 (hm.mp z))]
theorem look_totals (l : List (NestedKey × Int)) (k : NestedKey) : lookN (totals l) k = if k ∈ l.map (·.1) then some (cnt l k) else none := by
  have := look_fold k l []
  unfold totals
  rw [this]
  show (if _ then some (0 + cnt l k) else none) = _
  rw [Int.zero_add]
theorem look_mem {kvs : List (NestedKey × Int)} {k : NestedKey} : k ∈ kvs.map (·.1) ↔ (lookN kvs k).isSome = true := by
  constructor
  · intro h
    obtain ⟨n, e⟩ := lookN_some h
    rw [e]; rfl
  · intro h
    cases e : lookN kvs k with
    | none => rw [e] at h; cases h
    | some n =>
      unfold lookN at e
      cases e2 : kvs.find? (fun p => decide (p.1 = k)) with
      | none => rw [e2] at e; cases e
      | some p =>
        have h1 := List.mem_of_find?_eq_some e2
        have h2 := List.find?_some e2
        exact List.mem_map.mpr ⟨p, h1, of_decide_eq_true h2⟩
theorem totals_mem (l : List (NestedKey × Int)) (k : NestedKey) : k ∈ (totals l).map (·.1) ↔ k ∈ l.map (·.1) := by
  rw [look_mem, look_totals]
  by_cases h : k ∈ l.map (·.1)
  · rw [if_pos h]; exact ⟨fun _ => h, fun _ => rfl⟩
  · rw [if_neg h]; exact ⟨(fun z => nomatch z), fun z => absurd z h⟩
theorem KLt.asymm {a b : NestedKey} (h : KLt a b) (h' : KLt b a) : a = b := by
  have := PyProof.Rows.lex_trans (O := itemOrd) _ _ _ h h'
  rw [PyProof.Rows.lex_irrefl] at this
  cases this
theorem settle_perm {l m : List (NestedKey × Int)} (h : l.Perm m) (hK : KeysOk (l.map (·.1))) : settle l = settle m := by
  have hm : ∀ k, k ∈ l.map (·.1) ↔ k ∈ m.map (·.1) := fun k => (h.map _).mem_iff
  have hK2 : KeysOk (m.map (·.1)) := hK.sub fun k hk => (hm k).mpr hk
  have hs1 := sorted_asc (totals_nodup l) (fun a ha b hb => hK.alk a (totals_keys l a ha) b (totals_keys l b hb))
  have hs2 := sorted_asc (totals_nodup m) (fun a ha b hb => hK2.alk a (totals_keys m a ha) b (totals_keys m b hb))
  have hp : (sortedKeys (totals l)).Perm (sortedKeys (totals m)) := by
    refine (List.mergeSort_perm _ _).trans (List.Perm.trans ?_ (List.mergeSort_perm _ _).symm)
    refine (List.perm_ext_iff_of_nodup (totals_nodup l) (totals_nodup m)).mpr fun k => ?_
    rw [totals_mem, totals_mem]
    exact hm k
  have e1 : sortedKeys (totals l) = sortedKeys (totals m) := List.Perm.eq_of_pairwise (fun a b _ _ x y => KLt.asymm x y) hs1 hs2 hp
  have e2 : pick (totals l) = pick (totals m) := by
    funext k
    unfold pick
    rw [look_totals, look_totals, cnt_perm h k]
    by_cases hk : k ∈ l.map (·.1)
    · rw [if_pos hk, if_pos ((hm k).mp hk)]
    · rw [if_neg hk, if_neg (fun z => hk ((hm k).mpr z))]
  unfold settle
  rw [e1, e2]
def tot (l : List (NestedKey × Int)) : Nat := (l.map fun p => p.2.natAbs).sum
theorem cnt_le (l : List (NestedKey × Int)) (k : NestedKey) : (cnt l k).natAbs ≤ tot l := by
  induction l with
  | nil => exact Nat.le_refl _
  | cons p l ih =>
    have e : tot (p :: l) = p.2.natAbs + tot l := by unfold tot; rw [List.map_cons, List.sum_cons]
    rw [cnt_cons, e]
    split <;> omega
theorem settle_cnt {l : List (NestedKey × Int)} {p : NestedKey × Int} (h : p ∈ settle l) : p.2 = cnt l p.1 := by
  obtain ⟨k, hk, hp⟩ := List.mem_filterMap.mp h
  have hm := totals_keys l k (sortedKeys_mem.mp hk)
  unfold pick at hp
  rw [look_totals, if_pos hm] at hp
  simp only at hp
  split at hp
  · cases hp
  · cases hp; rfl
theorem settle_bd {l : List (NestedKey × Int)} {p : NestedKey × Int} (h : p ∈ settle l) : p.2.natAbs ≤ tot l := by
  rw [settle_cnt h]
  exact cnt_le l p.1
theorem tot_le {l : List (NestedKey × Int)} {n : Nat} (h : ∀ z ∈ l, z.2.natAbs ≤ n) : tot l ≤ l.length * n := by
  induction l with
  | nil => exact Nat.zero_le _
  | cons p l ih =>
    have e : tot (p :: l) = p.2.natAbs + tot l := by unfold tot; rw [List.map_cons, List.sum_cons]
    have := h p (List.mem_cons_self ..)
    have := ih fun z hz => h z (List.mem_cons_of_mem _ hz)
    rw [e, List.length_cons, Nat.succ_mul]
    omega
end

/-! ### rows multiplied -/
def PlT (_ : PySem.W.Frag) (H : Hp) (a : Addr) (xs : List V) : Prop := H a = some (.tup xs)
/-- tuples stay -/
def TupK (H H' : Hp) : Prop := ∀ c zs, H c = some (.tup zs) → H' c = some (.tup zs)
theorem Same.tk {H H' : Hp} (s : Same H H') : TupK H H' := fun c zs e => s c _ e
theorem prAllT {H H' : Hp} (s : TupK H H') : ∀ {l : List (NestedKey × Int)} {xs : List V}, PrAll H l xs → PrAll H' l xs
  | _, _, .nil => .nil
  | _, _, .cons a b c => .cons (s _ _ a) (nkTup s _ _ b) (prAllT s c)
theorem tupk_put {H0 H2 H4 : Hp} {d : Addr} {kvs : List (NestedKey × Int)} (s : TupK H0 H2) (D : DN P w H2 d kvs) (k : ∀ c u, c ≠ d → H2 c = some u → H4 c = some u) : TupK H0 H4 := fun c zs e => by
  obtain ⟨xs, h1, _⟩ := D.ex
  exact k c _ (ne_of (s c zs e) h1 (fun z => nomatch z)) (s c zs e)
theorem catA_read {H : Hp} {a b : Addr} {xs ys : List V} {l m : List (NestedKey × Int)} {Q : VK} (ha : H a = some (.tup xs)) (hb : H b = some (.tup ys)) (pl : PrAll H l xs) (pm : PrAll H m ys) (hn : l.length + m.length ≤ 10000)
    (k : ∀ c H' zs, Same H H' → H' c = some (.tup zs) → PrAll H' (l ++ m) zs → Q (.ref c) H') : rCatA K (.ref a) (.ref b) H Q := by
  have h1 := pl.length
  have h2 := pm.length
  have h4 : (20000 : Nat) < sizeLine := by decide
  refine ⟨a, b, xs, ys, rfl, rfl, .inl (.inl ha), .inl (.inl hb), by omega, fun e => ?_, fun _ e => ?_, fun _ _ p hp => ?_⟩
  · subst e
    have : l = [] := List.eq_nil_of_length_eq_zero (by rw [← h1]; rfl)
    subst this
    exact k b H ys (Same.refl H) hb pm
  · subst e
    have : m = [] := List.eq_nil_of_length_eq_zero (by rw [← h2]; rfl)
    subst this
    exact k a H xs (Same.refl H) ha (by rw [List.append_nil]; exact pl)
  · exact k p _ _ (same_new hp) upd_same ((pl.app pm).mono (same_new hp))
def sp_rt : Sp := fun vs H Q _ => ∃ (a b : Addr) (xs ys : List V) (l m : List (NestedKey × Int)), vs = [.ref a, .ref b] ∧ H a = some (.tup xs) ∧ H b = some (.tup ys) ∧ PrAll H l xs ∧ PrAll H m ys ∧ l.length + m.length ≤ 10000 ∧ KeysOk ((l ++ m).map (·.1)) ∧
  ∀ H' q zs, Same H H' → H' q = some (.tup zs) → PrAll H' (settle (l ++ m)) zs → Q (.ref q) H'

theorem ok__law_row_times (T : Env K mg) : FnOk P w K mg base CX0 1 T.a__law_row_times T.fd__law_row_times ["_law_one", "_law_other"] sp_rt := by
  refine T.F__law_row_times.ok sc__law_row_times (fun vs H Q E h => ?_) (fun cdv A outer s H vs Q E hr h => ?_)
  · obtain ⟨p1, p2, xs1, xs2, l1, l2, rfl, _⟩ := h
    rfl
  · obtain ⟨p1, p2, xs1, xs2, l1, l2, rfl, hS1, hS2, hP1, hP2, hlen, hK, kq⟩ := h
    generalize hl12 : l1 ++ l2 = l at *
    replace hlen : l.length ≤ 10000 := by rw [← hl12, List.length_append]; exact hlen
    refine ⟨_, (pss_cons (ps_set (i := 2) sc__law_row_times.nd rfl (.inr rfl) (pe_dnewN (P := P) (w := w) rfl rfl))
 (pss_cons (ps_for PassesOwn.never rfl (pi_tup (pe_op op_catA (pv 0) (pv 1))) (pg_tup rfl (pgs_cons (pg_name (i := 3) sc__law_row_times.nd rfl (.inl rfl)) (pgs_cons (pg_name (i := 4) sc__law_row_times.nd rfl (.inl rfl)) pgs_nil)))
 (pss_one (ps_putN (P := P) (w := w) rfl rfl (by exact hr.units) (pv 2) (pv 3) (pe_op op_add (pe_getN (P := P) (w := w) rfl rfl (by exact hr.units) (pv 2) (pv 3) pe_int ⟨rfl, rfl, rfl, rfl⟩) (pv 4)) rfl)))
 (pss_one (ps_ret (pe_tupleOf (by rfl) T.m_tuple (pe_lc (own := [("_law_mark", 3)]) (by rfl) sc__law_row_times.nd (pi_list (pe_callB (cr_sortedN rfl (by exact hr.units)) (by rfl) T.m_sorted (by decide +kernel) (pa_cons (pe_keysN (pv 2)) pa_nil))) (blkOk_by (own := [("_law_mark", 3)]) (N := ["_law_one", "_law_other", "_law_powers", "_law_mark", "_law_power"]) (sc := defScope s__law_row_times) (by decide +kernel)) (fun _ _ _ _ _ => (pg_name (i := 3) sc__law_row_times.nd rfl (.inl rfl))) (fun _ _ _ _ _ => (pts_one (pt_cmpR op_ne (pe_itemN (P := P) (w := w) rfl rfl (by exact hr.units) (pv 2) (pv 3) (fun _ _ => rfl)) pe_int (nomark _)))) (fun _ _ _ _ _ => (pe_tup (pa_cons (pv 3) (pa_cons (pe_itemN (P := P) (w := w) rfl rfl (by exact hr.units) (pv 2) (pv 3) (fun _ _ => rfl)) pa_nil)))))))))), ?_⟩
    -- the dict, empty
    refine fun d hd hm => ?_
    have s1 := same_new (o := kdO P w d []) hd
    have D1 : DN P w (upd H d (kdO P w d [])) d [] := dn_new hm
    generalize upd H d (kdO P w d []) = H1 at *
    have hKt : ∀ m : List (NestedKey × Int), (∀ z ∈ m.map (·.1), z ∈ l.map (·.1)) → KeysOk ((totals m).map (·.1)) := fun m hm => hK.sub fun z hz => hm z (totals_keys m z hz)
    refine ⟨_, rfl, _, rfl, ?_⟩
    refine catA_read (s1 _ _ hS1) (s1 _ _ hS2) (hP1.mono s1) (hP2.mono s1) (by rw [← List.length_append, hl12]; exact hlen) fun p HA xs sA hS hP => ?_
    replace D1 := D1.mono sA
    replace s1 := s1.trans sA
    rw [hl12] at hP
    clear hP1 hP2
    refine ⟨p, rfl, ⟨_, .inl (.inl hS)⟩, for_tup (K := K) (a := p) (xs := xs) (fun i σ H' => ∃ y2 y3, σ = [some (.ref p1), some (.ref p2), some (.ref d), y2, y3] ∧ TupK HA H' ∧ Same H H' ∧ DN P w H' d (totals (l.take i)))
      ⟨_, _, rfl, fun _ _ e => e, s1, by rw [List.take_zero]; exact D1⟩ (fun i σ H' _ ⟨_, _, _, sB, s2, _⟩ => (.inl (.inl (sB _ _ hS)))) ?_ ?_⟩
    · rintro i x σ H2 hi ⟨y2, y3, rfl, sB, s2, D2⟩
      obtain ⟨k, n, t, b, hl, rfl, ht, hb⟩ := hP.at hi
      have hk8 := hK.dep k (List.mem_map.mpr ⟨_, List.mem_of_getElem? hl, rfl⟩)
      have hb2 := nkTup sB _ _ hb
      have hsm : (totals (l.take i)).length < 100000 := by
        have h1 := totals_len (l.take i)
        rw [List.length_take] at h1
        omega
      refine ⟨t, _, rfl, .inl (.inl (sB _ _ ht)), rfl, _, _, rfl, _, _, rfl, rfl, ?_⟩
      refine ⟨_, rfl, d, _, rfl, D2, _, rfl, _, k, b, 0, D2, rfl, hb2, hk8, rfl, _, rfl, _, _, rfl, rfl, _, rfl, _, rfl, d, _, k, b, _, rfl, rfl, D2, rfl, hb2, hk8, hsm, fun H4 D4 k4 _ => ?_⟩
      refine ⟨_, _, rfl, tupk_put sB D2 k4, same_of_put s2 hd k4, ?_⟩
      rw [take_more' hl, totals_more]
      exact D4
    · rintro σ H2 ⟨y2, y3, rfl, sB, s2, D2⟩
      have hx := hP.length
      rw [hx, List.take_length] at D2
      have hKs := hKt l (fun z hz => hz)
      -- the keys in order
      refine ⟨_, rfl, d, _, rfl, D2, fun v hv => ?_⟩
      have sv := same_new (o := keysO v d) hv
      have fv : (upd H2 v (keysO v d)) v = some (keysO v d) := upd_same
      have D3 := D2.mono sv
      have s3 := s2.trans sv
      generalize upd H2 v (keysO v d) = H3 at *
      refine ⟨v, d, _, rfl, .inr fv, D3, ?_, ?_, ?_, fun q ys hq hN => ?_⟩
      · exact fun p hp => hKs.tup _ (List.mem_map_of_mem hp)
      · exact fun p hp p' hp' => hKs.alk _ (List.mem_map_of_mem hp) _ (List.mem_map_of_mem hp')
      · exact fun p hp => hKs.dep2 _ (List.mem_map_of_mem hp)
      have s4 := same_new (o := .lst ys) hq
      have hq4 : (upd H3 q (.lst ys)) q = some (.lst ys) := upd_same
      have D4 := D3.mono s4
      have hN4 : NkAll (upd H3 q (.lst ys)) (sortedKeys (totals l)) ys := NkAll.mono s4 _ _ hN
      have s5 := s3.trans s4
      generalize upd H3 q (.lst ys) = H5 at *
      refine ⟨q, rfl, ⟨_, .inl (.inl hq4)⟩, fun D hD => ?_⟩
      have nD : H D = none := s5.free hD
      refine lc_list (K := K) (a := q) (xs := ys) (fun i H' => ∃ zs, H' D = some (.lst zs) ∧ PrAll H' (((sortedKeys (totals l)).take i).filterMap (pick (totals l))) zs ∧ Same H5 H') ?_ ?_ ?_ ?_
      · refine ⟨[], upd_same, ?_, same_new hD⟩
        rw [List.take_zero]
        exact .nil
      · rintro i H' _ ⟨zs, _, _, s6⟩
        exact .inl (.inl (s6 _ _ hq4))
      · rintro i x H' hi ⟨zs, hz, hPz, s6⟩
        obtain ⟨k, hk, hkx⟩ := NkAll.at hN4 hi
        have hmem : k ∈ (totals l).map (·.1) := sortedKeys_mem.mp (List.mem_of_getElem? hk)
        obtain ⟨n, hn⟩ := lookN_some hmem
        obtain ⟨kl, rfl⟩ := hKs.tup k hmem
        obtain ⟨b, rfl⟩ := nk_ref hkx
        have hk8 := hKs.dep _ hmem
        have D6 := D4.mono s6
        have hb6 := Nk.mono s6 _ _ hkx
        have hzl : zs.length < sizeLine := by
          have h1 := hPz.length
          have h2 : ((((sortedKeys (totals l)).take i).filterMap (pick (totals l)))).length ≤ ((sortedKeys (totals l)).take i).length := List.length_filterMap_le _ _
          rw [List.length_take, sortedKeys_len] at h2
          have h3 := totals_len l
          have h4 : (20000 : Nat) < sizeLine := by decide
          omega
        refine ⟨rfl, _, rfl, _, rfl, d, _, _, b, n, rfl, D6, rfl, hb6, hk8, hn, rfl, _, rfl, ?_⟩
        have hf := filterMap_more (pick (totals l)) hk
        by_cases h0 : n = 0
        · have e0 : pick (totals l) (.tup kl) = none := by unfold pick; rw [hn]; show (if n = 0 then none else _) = none; rw [if_pos h0]
          rw [h0]
          refine iteF ?_
          refine ⟨zs, hz, ?_, s6⟩
          rw [hf, e0, Option.toList_none, List.append_nil]
          exact hPz
        · have e0 : pick (totals l) (.tup kl) = some (.tup kl, n) := by unfold pick; rw [hn]; show (if n = 0 then none else _) = _; rw [if_neg h0]
          rw [decide_eq_false (show ¬ V.int n = V.int 0 from fun z => h0 (V.int.inj z))]
          refine iteT ?_
          refine ⟨_, rfl, _, rfl, _, rfl, d, _, _, b, n, rfl, D6, rfl, hb6, hk8, hn, (by show 2 ≤ sizeLine; decide), fun t nt => ?_⟩
          have s7 := same_new (o := .tup [.ref b, .int n]) nt
          have ht7 : (upd H' t (.tup [.ref b, .int n])) t = some (.tup [.ref b, .int n]) := upd_same
          generalize upd H' t (.tup [.ref b, .int n]) = H7 at *
          have hD7 := s7 _ _ hz
          refine ⟨zs, hD7, hzl, zs ++ [.ref t], upd_same, ?_, ?_⟩
          · rw [hf, e0]
            have s8 : Same7 D H7 (upd H7 D (.lst (zs ++ [V.ref t]))) := fun c u hc e => by rw [upd_ne hc]; exact e
            refine (prAllD hD7 s8 (hPz.mono s7)).app (.cons (b := b) ?_ ?_ .nil)
            · rw [upd_ne (ne_of ht7 hD7 (fun z => nomatch z))]; exact ht7
            · exact nkTup (fun c zs' e => by rw [upd_ne (ne_of e hD7 (fun z => nomatch z))]; exact e) _ _ (Nk.mono s7 _ _ hb6)
          · intro c u e
            have hc : c ≠ D := ne_of_none e hD
            rw [upd_ne hc]
            exact s7 _ _ (s6 _ _ e)
      · rintro H' ⟨zs, hz, hPz, s6⟩
        rw [show ys.length = (sortedKeys (totals l)).length from NkAll.length hN4, List.take_length] at hPz
        refine .inl ⟨D, zs, rfl, .inl (.inl hz), fun q2 hq2 => ?_⟩
        have s7 := same_new (o := .tup zs) hq2
        exact kq _ q2 zs ((s5.trans s6).trans s7) upd_same (hPz.mono s7)

def sp_whole : Sp := fun vs H Q _ => ∃ n : Int, vs = [.int n] ∧ Q (.bl true) H
theorem ok__law_whole (T : Env K mg) : FnOk P w K mg base CX0 1 T.a__law_whole T.fd__law_whole ["_law_found"] sp_whole := by
  refine T.F__law_whole.ok sc__law_whole (fun vs H Q E h => ?_) (fun cdv A outer s H vs Q E hr h => ?_)
  · obtain ⟨n, rfl, _⟩ := h
    rfl
  · obtain ⟨n, rfl, q⟩ := h
    refine ⟨_, (pss_one (ps_ret (pe_and (pe_callB call_isi (by rfl) T.m_isinstance (by decide +kernel) (pa_cons (pv 0) (pa_cons (pe_bltn (v := .ty "int") (u := .type "int") (by rfl) T.m_int (by decide +kernel) rfl) pa_nil))) (pe_one (pe_not (pe_callB call_isi (by rfl) T.m_isinstance (by decide +kernel) (pa_cons (pv 0) (pa_cons (pe_bltn (v := .ty "bool") (u := .type "bool") (by rfl) T.m_bool (by decide +kernel) rfl) pa_nil)))))))), ?_⟩
    refine ⟨_, rfl, _, _, _, _, _, rfl, .ty _, .base (.int _), kit_ty (by decide +kernel), true, rfl, iteT ?_⟩
    exact ⟨_, rfl, _, _, _, _, _, rfl, .ty _, .base (.int _), kit_ty (by decide +kernel), false, rfl, q⟩

/-! ### the form, looked at -/
def sp_tuple : Sp := fun vs H Q _ => ∃ (p : Addr) (x y : Int), vs = [.ref p, .int 2] ∧ H p = some (.tup [.int x, .int y]) ∧ Q (.bl true) H
theorem ok__law_tuple (T : Env K mg) : FnOk P w K mg base CX0 2 T.a__law_tuple T.fd__law_tuple ["_law_found", "_law_many"] sp_tuple := by
  refine T.F__law_tuple.ok sc__law_tuple (fun vs H Q E h => ?_) (fun cdv A outer s H vs Q E hr h => ?_)
  · obtain ⟨p, x, y, rfl, _⟩ := h
    rfl
  · obtain ⟨p, x, y, rfl, hp, q⟩ := h
    refine ⟨_, (pss_cons (ps_if (PW.pt (pw_or (pt_not (pt_val (pe_callB call_isi (by rfl) T.m_isinstance (by decide +kernel) (pa_cons (pv 0) (pa_cons (pe_bltn (v := .ty "tuple") (u := .type "tuple") (by rfl) T.m_tuple (by decide +kernel) rfl) pa_nil))))) (pw_or1 (pt_cmpR op_ne (pe_callB call_len_seq (by rfl) T.m_len (by decide +kernel) (pa_cons (pv 0) pa_nil)) (pv 1) (nomark _)))))
 (pss_one (ps_ret pe_bl))
 pss_nil)
 (pss_cons (ps_for PassesOwn.never rfl (pi_tup (pv 0)) (pg_name (i := 2) sc__law_tuple.nd rfl (.inl rfl))
 (pss_one (ps_if (pt_not (pt_val (pe_call (ok__law_whole T) (hr.mono (by decide)) (by rfl) T.g__law_whole T.F__law_whole.kp T.b__law_whole .nil pass0 (pa_cons (pv 2) pa_nil))))
 (pss_one (ps_ret pe_bl))
 pss_nil)))
 (pss_one (ps_ret pe_bl)))), ?_⟩
    have hS : SqT K H p [.int x, .int y] := .inl (.inl hp)
    refine ⟨_, rfl, _, _, _, _, _, rfl, .ty _, .base (.tup hp), kit_ty (by decide +kernel), true, rfl, ?_⟩
    show if false = true then _ else _
    rw [if_neg Bool.false_ne_true]
    refine ⟨_, rfl, _, _, rfl, .inr hS, _, rfl, rfl, _, rfl, ?_⟩
    refine iteNS rfl ?_
    refine ⟨_, rfl, p, rfl, ⟨_, hS⟩, for_tup (K := K) (a := p) (xs := [.int x, .int y]) (fun i σ H' => H' = H ∧ ∃ z, σ = [some (.ref p), some (.int 2), z]) ⟨rfl, _, rfl⟩ (fun i σ H' _ ⟨e, _⟩ => by rw [e]; exact hS) ?_ ?_⟩
    · rintro i v σ H' hi ⟨rfl, z, rfl⟩
      obtain ⟨n, rfl⟩ : ∃ n, v = .int n := by
        match i, hi with
        | 0, hi => exact ⟨x, (Option.some.inj hi).symm⟩
        | 1, hi => exact ⟨y, (Option.some.inj hi).symm⟩
      refine ⟨_, rfl, _, rfl, true, rfl, iteF ?_⟩
      exact ⟨rfl, _, rfl⟩
    · rintro σ H' ⟨rfl, z, rfl⟩
      exact q
def sp_sum : Sp := fun vs H Q _ => ∃ (a : Addr) (xs : List V) (m : List (NestedKey × Int)), vs = [.ref a] ∧ H a = some (.lst xs) ∧ PrAll H m xs ∧ SumOk m ∧ Q (.bl true) H
theorem at_some {m : List (NestedKey × Int)} {i : Nat} (h : i < m.length) : ∃ k n, m[i]? = some (k, n) := ⟨m[i].1, m[i].2, by rw [List.getElem?_eq_getElem h]⟩
theorem PrAll.at2 {H : Hp} {l : List (NestedKey × Int)} {xs : List V} {i : Nat} {k : NestedKey} {n : Int} (h : PrAll H l xs) (e : l[i]? = some (k, n)) : ∃ t b, xs[i]? = some (.ref t) ∧ H t = some (.tup [.ref b, .int n]) ∧ Nk H k (.ref b) := by
  have hi : i < l.length := (List.getElem?_eq_some_iff.mp e).1
  have hx : i < xs.length := by rw [h.length]; exact hi
  obtain ⟨k', n', t, b, h1, h2, h3, h4⟩ := h.at (x := xs[i]) (List.getElem?_eq_getElem hx)
  rw [e] at h1
  cases h1
  exact ⟨t, b, by rw [List.getElem?_eq_getElem hx, h2], h3, h4⟩
theorem ok__law_sum (T : Env K mg) : FnOk P w K mg base CX0 3 T.a__law_sum T.fd__law_sum ["_law_found"] sp_sum := by
  refine T.F__law_sum.ok sc__law_sum (fun vs H Q E h => ?_) (fun cdv A outer s H vs Q E hr h => ?_)
  · obtain ⟨a, xs, m, rfl, _⟩ := h
    rfl
  · obtain ⟨a, xs, m, rfl, hA, hP, hM, q⟩ := h
    refine ⟨_, (pss_cons (ps_if (pt_not (pt_val (pe_callB call_isi (by rfl) T.m_isinstance (by decide +kernel) (pa_cons (pv 0) (pa_cons (pe_bltn (v := .ty "list") (u := .type "list") (by rfl) T.m_list (by decide +kernel) rfl) pa_nil)))))
 (pss_one (ps_ret pe_bl))
 pss_nil)
 (pss_cons (ps_for PassesOwn.never rfl (pi_list (pv 0)) (pg_name (i := 1) sc__law_sum.nd rfl (.inl rfl))
 (pss_cons (ps_if (PW.pt (pw_or (pt_not (pt_val (pe_callB call_isi (by rfl) T.m_isinstance (by decide +kernel) (pa_cons (pv 1) (pa_cons (pe_bltn (v := .ty "tuple") (u := .type "tuple") (by rfl) T.m_tuple (by decide +kernel) rfl) pa_nil))))) (pw_or (pt_cmpR op_ne (pe_callB call_len_seq (by rfl) T.m_len (by decide +kernel) (pa_cons (pv 1) pa_nil)) pe_int (nomark _)) (pw_or1 (pt_not (pt_val (pe_callB call_isi (by rfl) T.m_isinstance (by decide +kernel) (pa_cons (pe_ix ix_tup (pv 1) pe_int (fun _ _ => rfl)) (pa_cons (pe_bltn (v := .ty "tuple") (u := .type "tuple") (by rfl) T.m_tuple (by decide +kernel) rfl) pa_nil)))))))))
 (pss_one (ps_ret pe_bl))
 pss_nil)
 (pss_cons (ps_if (PW.pt (pw_or (pt_not (pt_val (pe_call (ok__law_whole T) (hr.mono (by decide)) (by rfl) T.g__law_whole T.F__law_whole.kp T.b__law_whole .nil pass0 (pa_cons (pe_ix ix_tup (pv 1) pe_int (fun _ _ => rfl)) pa_nil)))) (pw_or1 (pt_cmpR op_eq (pe_ix ix_tup (pv 1) pe_int (fun _ _ => rfl)) pe_int (nomark _)))))
 (pss_one (ps_ret pe_bl))
 pss_nil)
 (pss_cons (ps_for PassesOwn.never rfl (pi_tup (pe_ix ix_tup (pv 1) pe_int (fun _ _ => rfl))) (pg_name (i := 2) sc__law_sum.nd rfl (.inl rfl))
 (pss_cons (ps_if (PW.pt (pw_or (pt_not (pt_val (pe_callB call_isi (by rfl) T.m_isinstance (by decide +kernel) (pa_cons (pv 2) (pa_cons (pe_bltn (v := .ty "tuple") (u := .type "tuple") (by rfl) T.m_tuple (by decide +kernel) rfl) pa_nil))))) (pw_or (pt_cmpR op_ne (pe_callB call_len_seq (by rfl) T.m_len (by decide +kernel) (pa_cons (pv 2) pa_nil)) pe_int (nomark _)) (pw_or1 (pt_not (pt_val (pe_call (ok__law_tuple T) (hr.mono (by decide)) (by rfl) T.g__law_tuple T.F__law_tuple.kp T.b__law_tuple .nil pass0 (pa_cons (pe_ix ix_tup (pv 2) pe_int (fun _ _ => rfl)) (pa_cons pe_int pa_nil)))))))))
 (pss_one (ps_ret pe_bl))
 pss_nil)
 (pss_one (ps_if (PW.pt (pw_or (pt_not (pt_val (pe_call (ok__law_whole T) (hr.mono (by decide)) (by rfl) T.g__law_whole T.F__law_whole.kp T.b__law_whole .nil pass0 (pa_cons (pe_ix ix_tup (pv 2) pe_int (fun _ _ => rfl)) pa_nil)))) (pw_or1 (pt_cmpR op_eq (pe_ix ix_tup (pv 2) pe_int (fun _ _ => rfl)) pe_int (nomark _)))))
 (pss_one (ps_ret pe_bl))
 pss_nil))))
 (pss_one (ps_for PassesOwn.never rfl (pi_range1 (by rfl) T.m_range (pa_cons (pe_op op_sub (pe_callB call_len_seq (by rfl) T.m_len (by decide +kernel) (pa_cons (pe_ix ix_tup (pv 1) pe_int (fun _ _ => rfl)) pa_nil)) pe_int) pa_nil)) (pg_name (i := 3) sc__law_sum.nd rfl (.inl rfl))
 (pss_one (ps_if (pt_cmpR (op_geN (by exact hr.units)) (pe_ix ix_tup (pe_ix ix_tup (pe_ix ix_tup (pv 1) pe_int (fun _ _ => rfl)) (pv 3) (fun _ _ => rfl)) pe_int (fun _ _ => rfl)) (pe_ix ix_tup (pe_ix ix_tup (pe_ix ix_tup (pv 1) pe_int (fun _ _ => rfl)) (pe_op op_add (pv 3) pe_int) (fun _ _ => rfl)) pe_int (fun _ _ => rfl)) (nomark _))
 (pss_one (ps_ret pe_bl))
 pss_nil))))))))
 (pss_cons (ps_for PassesOwn.never rfl (pi_range1 (by rfl) T.m_range (pa_cons (pe_op op_sub (pe_callB call_len_seq (by rfl) T.m_len (by decide +kernel) (pa_cons (pv 0) pa_nil)) pe_int) pa_nil)) (pg_name (i := 3) sc__law_sum.nd rfl (.inl rfl))
 (pss_one (ps_if (pt_cmpR (op_geN (by exact hr.units)) (pe_ix ix_tup (pe_ix ix_list (pv 0) (pv 3) (fun _ _ => rfl)) pe_int (fun _ _ => rfl)) (pe_ix ix_tup (pe_ix ix_list (pv 0) (pe_op op_add (pv 3) pe_int) (fun _ _ => rfl)) pe_int (fun _ _ => rfl)) (nomark _))
 (pss_one (ps_ret pe_bl))
 pss_nil)))
 (pss_one (ps_ret pe_bl))))), ?_⟩
    have hS : SqL K H a xs := .inl (.inl hA)
    have big : (10001 : Int) < 2 ^ 62 := by decide
    refine ⟨_, rfl, _, _, _, _, _, rfl, .ty _, .base (.lst hA), kit_ty (by decide +kernel), true, rfl, iteF ?_⟩
    refine ⟨_, rfl, a, rfl, ⟨_, hS⟩, for_list (K := K) (a := a) (xs := xs) (fun i σ H' => H' = H ∧ ∃ y1 y2 y3, σ = [some (.ref a), y1, y2, y3]) ⟨rfl, _, _, _, rfl⟩ (fun i σ H' _ ⟨e, _⟩ => by rw [e]; exact hS) ?_ ?_⟩
    · rintro i x σ H' hi ⟨rfl, y1, y2, y3, rfl⟩
      obtain ⟨k, n, t, b, hl, rfl, ht, hb⟩ := hP.at hi
      have hmem := List.mem_of_getElem? hl
      obtain ⟨l, hk, hL⟩ := hM.rk _ hmem
      have hk : k = rowK l := hk
      subst hk
      have hn : n ≠ 0 := hM.nz _ hmem
      obtain ⟨zs, hbz, hPz⟩ := nk_row hL.rk hb
      have hT : SqT K H' t [.ref b, .int n] := .inl (.inl ht)
      have hB : SqT K H' b zs := .inl (.inl hbz)
      have hzl := hPz.length
      have hll := hL.len
      refine ⟨_, rfl, _, _, _, _, _, rfl, .ty _, .base (.tup ht), kit_ty (by decide +kernel), true, rfl, ?_⟩
      show if false = true then _ else _
      rw [if_neg Bool.false_ne_true]
      refine ⟨_, rfl, _, _, rfl, .inr hT, rfl, _, rfl, ?_⟩
      refine iteNS rfl ?_
      refine ⟨_, rfl, _, _, _, _, rfl, rfl, hT, atI_nat (j := 0) rfl, _, _, _, _, _, rfl, .ty _, .base (.tup hbz), kit_ty (by decide +kernel), true, rfl, iteF ?_⟩
      -- the count
      refine ⟨_, rfl, _, _, _, _, rfl, rfl, hT, atI_nat (j := 1) rfl, _, rfl, true, rfl, iteF ?_⟩
      refine ⟨_, rfl, _, _, _, _, rfl, rfl, hT, atI_nat (j := 1) rfl, rfl, _, rfl, ?_⟩
      rw [decide_eq_false (show ¬ V.int n = V.int 0 from fun z => hn (V.int.inj z))]
      refine iteF ?_
      -- each letter
      refine ⟨_, rfl, _, _, _, _, rfl, rfl, hT, atI_nat (j := 0) rfl, b, rfl, ⟨_, hB⟩, for_tup (K := K) (a := b) (xs := zs) (fun i σ H2 => H2 = H' ∧ ∃ y2 y3, σ = [some (.ref a), some (.ref t), y2, y3]) ⟨rfl, _, _, rfl⟩ (fun i σ H2 _ ⟨e, _⟩ => by rw [e]; exact hB) ?_ ?_⟩
      · rintro j x σ H2 hj ⟨rfl, z2, z3, rfl⟩
        obtain ⟨k', n', t', b', hl', rfl, ht', hb'⟩ := hPz.at hj
        have hmem' := List.mem_of_getElem? hl'
        obtain ⟨x, y, hk'⟩ := hL.rk _ hmem'
        have hk' : k' = markK x y := hk'
        subst hk'
        have hn' : n' ≠ 0 := hL.nz _ hmem'
        have hbx := nk_mark hb'
        have hT' : SqT K H2 t' [.ref b', .int n'] := .inl (.inl ht')
        refine ⟨_, rfl, _, _, _, _, _, rfl, .ty _, .base (.tup ht'), kit_ty (by decide +kernel), true, rfl, ?_⟩
        show if false = true then _ else _
        rw [if_neg Bool.false_ne_true]
        refine ⟨_, rfl, _, _, rfl, .inr hT', rfl, _, rfl, ?_⟩
        refine iteNS rfl ?_
        refine ⟨_, rfl, _, _, _, _, rfl, rfl, hT', atI_nat (j := 0) rfl, b', x, y, rfl, hbx, true, rfl, iteF ?_⟩
        refine ⟨_, rfl, _, _, _, _, rfl, rfl, hT', atI_nat (j := 1) rfl, _, rfl, true, rfl, iteF ?_⟩
        refine ⟨_, rfl, _, _, _, _, rfl, rfl, hT', atI_nat (j := 1) rfl, rfl, _, rfl, ?_⟩
        rw [decide_eq_false (show ¬ V.int n' = V.int 0 from fun z => hn' (V.int.inj z))]
        refine iteF ?_
        exact ⟨rfl, _, _, rfl⟩
      · rintro σ H2 ⟨rfl, z2, z3, rfl⟩
        refine ⟨_, rfl, _, _, _, _, rfl, rfl, hT, atI_nat (j := 0) rfl, _, _, rfl, .inr hB, _, _, rfl, rfl, _, rfl, by omega, by omega, for_range (lo := 0) (n := (((zs.length : Nat) : Int) - 1).toNat) (fun i σ H3 => H3 = H2 ∧ ∃ y2 y3, σ = [some (.ref a), some (.ref t), y2, y3]) ⟨rfl, _, _, rfl⟩ ?_ ?_⟩
        · rintro j σ H3 hj ⟨rfl, w2, w3, rfl⟩
          have hj1 : j + 1 < l.length := by omega
          obtain ⟨k1, n1, e1⟩ := at_some (m := l) (i := j) (by omega)
          obtain ⟨k2, n2, e2⟩ := at_some hj1
          obtain ⟨t1, b1, g1, h1, u1⟩ := hPz.at2 e1
          obtain ⟨t2, b2, g2, h2, u2⟩ := hPz.at2 e2
          have T1 : SqT K H3 t1 [.ref b1, .int n1] := .inl (.inl h1)
          have T2 : SqT K H3 t2 [.ref b2, .int n2] := .inl (.inl h2)
          obtain ⟨x1, y1, q1⟩ := hL.rk _ (List.mem_of_getElem? e1)
          obtain ⟨x2, y2, q2⟩ := hL.rk _ (List.mem_of_getElem? e2)
          have hlt := asc_at hL.asc e1 e2
          have q1 : k1 = markK x1 y1 := q1
          have q2 : k2 = markK x2 y2 := q2
          subst q1 q2
          have hlt : PySem.W.dataLt (kdat (markK x1 y1)) (kdat (markK x2 y2)) = true := hlt
          refine ⟨_, rfl, _, _, _, _, rfl, rfl, hT, atI_nat (j := 0) rfl, _, rfl, _, _, _, _, rfl, rfl, hB, (by rw [Int.zero_add]; exact atI_nat g1), _, _, _, _, rfl, rfl, T1, atI_nat (j := 0) rfl, ?_⟩
          refine ⟨_, rfl, _, _, _, _, rfl, rfl, hT, atI_nat (j := 0) rfl, _, rfl, _, _, rfl, rfl, _, _, _, _, rfl, rfl, hB, (by rw [Int.zero_add]; exact atI_nat (j := j + 1) g2), _, _, _, _, rfl, rfl, T2, atI_nat (j := 0) rfl, ?_⟩
          refine ⟨b1, b2, _, _, rfl, rfl, u1, u2, alike_mark x1 y1 x2 y2, (keysMark (ks := [markK x1 y1]) fun k hk => ⟨x1, y1, List.mem_singleton.mp hk⟩).dep2 _ (List.mem_singleton.mpr rfl), _, rfl, ?_⟩
          have hlt2 : (!PySem.W.dataLt (kdat (.tup [.num x1, .num y1])) (kdat (.tup [.num x2, .num y2]))) = false := by rw [show PySem.W.dataLt (kdat (.tup [.num x1, .num y1])) (kdat (.tup [.num x2, .num y2])) = true from hlt]; rfl
          rw [hlt2]
          exact iteF ⟨rfl, _, _, rfl⟩
        · rintro σ H3 ⟨rfl, w2, w3, rfl⟩
          exact ⟨rfl, _, _, _, rfl⟩
    · rintro σ H' ⟨rfl, y1, y2, y3, rfl⟩
      have hxl := hP.length
      have hml := hM.len
      refine ⟨_, rfl, _, _, rfl, .inl hS, _, _, rfl, rfl, _, rfl, by omega, by omega, for_range (lo := 0) (n := (((xs.length : Nat) : Int) - 1).toNat) (fun i σ H2 => H2 = H' ∧ ∃ y1 y2 y3, σ = [some (.ref a), y1, y2, y3]) ⟨rfl, _, _, _, rfl⟩ ?_ ?_⟩
      · rintro j σ H3 hj ⟨rfl, w1, w2, w3, rfl⟩
        have hj1 : j + 1 < m.length := by omega
        obtain ⟨k1, n1, e1⟩ := at_some (m := m) (i := j) (by omega)
        obtain ⟨k2, n2, e2⟩ := at_some hj1
        obtain ⟨t1, b1, g1, h1, u1⟩ := hP.at2 e1
        obtain ⟨t2, b2, g2, h2, u2⟩ := hP.at2 e2
        have T1 : SqT K H3 t1 [.ref b1, .int n1] := .inl (.inl h1)
        have T2 : SqT K H3 t2 [.ref b2, .int n2] := .inl (.inl h2)
        obtain ⟨l1, q1, L1⟩ := hM.rk _ (List.mem_of_getElem? e1)
        obtain ⟨l2, q2, L2⟩ := hM.rk _ (List.mem_of_getElem? e2)
        have hlt := asc_at hM.asc e1 e2
        have q1 : k1 = rowK l1 := q1
        have q2 : k2 = rowK l2 := q2
        subst q1 q2
        have hlt : PySem.W.dataLt (kdat (rowK l1)) (kdat (rowK l2)) = true := hlt
        refine ⟨_, rfl, _, rfl, _, _, _, _, rfl, rfl, hS, (by rw [Int.zero_add]; exact atI_nat g1), _, _, _, _, rfl, rfl, T1, atI_nat (j := 0) rfl, ?_⟩
        refine ⟨_, rfl, _, rfl, _, _, rfl, rfl, _, _, _, _, rfl, rfl, hS, (by rw [Int.zero_add]; exact atI_nat (j := j + 1) g2), _, _, _, _, rfl, rfl, T2, atI_nat (j := 0) rfl, ?_⟩
        refine ⟨b1, b2, _, _, rfl, rfl, u1, u2, alike_row L1.rk L2.rk, (keysRow (ks := [rowK l1]) fun k hk => ⟨l1, List.mem_singleton.mp hk, L1⟩).dep2 _ (List.mem_singleton.mpr rfl), _, rfl, ?_⟩
        have hlt2 : (!PySem.W.dataLt (kdat (.tup (l1.map pairK))) (kdat (.tup (l2.map pairK)))) = false := by rw [show PySem.W.dataLt (kdat (.tup (l1.map pairK))) (kdat (.tup (l2.map pairK))) = true from hlt]; rfl
        rw [hlt2]
        exact iteF ⟨rfl, _, _, _, rfl⟩
      · rintro σ H2 ⟨rfl, y1, y2, y3, rfl⟩
        exact q

/-! ### the drawn sum -/
def sp_draw (K : PySem.W.Frag) : Sp := fun vs H Q _ => ∃ (r : Addr) (rs : List Int) (tn mk : Nat), vs = [.ref r, .int tn, .int mk] ∧ SqL K H r (rs.map V.int) ∧ tn ≤ 10 ∧ mk ≤ 5 ∧ tn * mk ≤ rs.length ∧ tn ≤ rs.length ∧
  ∀ H' q xs l, Same H H' → H q = none → H' q = some (.lst xs) → PrAll H' l xs → SumOk l → l.length ≤ 10 → (∀ z ∈ l, z.2.natAbs ≤ 40) → (∀ z ∈ l, (unrow z.1).length ≤ 5) → Q (.ref q) H'
theorem draw_at {rs : List Int} {k mk i tn : Nat} (hk : k < tn) (hi : i < mk) (h : tn * mk ≤ rs.length) : ∃ v : Int, atI (rs.map V.int) ((0 + (k : Int)) * (mk : Int) + (0 + (i : Int))) = some (.int v) := by
  have h1 : (k + 1) * mk ≤ tn * mk := Nat.mul_le_mul_right mk hk
  rw [Nat.succ_mul] at h1
  have h2 : k * mk + i < rs.length := by omega
  refine ⟨rs[k * mk + i], ?_⟩
  rw [show (0 + (k : Int)) * (mk : Int) + (0 + (i : Int)) = ((k * mk + i : Nat) : Int) by rw [Int.zero_add, Int.zero_add, Int.natCast_add, Int.natCast_mul]]
  refine atI_nat ?_
  rw [List.getElem?_map, List.getElem?_eq_getElem h2]
  rfl
theorem row_at {rs : List Int} {k : Nat} (hk : k < rs.length) : ∃ v : Int, atI (rs.map V.int) (0 + (k : Int)) = some (.int v) := by
  refine ⟨rs[k], ?_⟩
  rw [Int.zero_add]
  refine atI_nat ?_
  rw [List.getElem?_map, List.getElem?_eq_getElem hk]
  rfl
theorem ok__law_draw_sum (T : Env K mg) : FnOk P w K mg base CX0 2 T.a__law_draw_sum T.fd__law_draw_sum ["_law_row", "_law_terms", "_law_marks"] (sp_draw K) := by
  refine T.F__law_draw_sum.ok sc__law_draw_sum (fun vs H Q E h => ?_) (fun cdv A outer s H vs Q E hr h => ?_)
  · obtain ⟨r, rs, tn, mk, rfl, _⟩ := h
    rfl
  · obtain ⟨r, rs, tn, mk, rfl, hR, ht10, hm5, hlen, hlen2, q⟩ := h
    refine ⟨_, (pss_cons (ps_set (i := 3) sc__law_draw_sum.nd rfl (.inl rfl) (pe_lst pa_nil))
 (pss_cons (ps_for PassesOwn.never rfl (pi_range1 (by rfl) T.m_range (pa_cons (pv 1) pa_nil)) (pg_name (i := 4) sc__law_draw_sum.nd rfl (.inl rfl))
 (pss_cons (ps_set (i := 5) sc__law_draw_sum.nd rfl (.inl rfl) (pe_tup pa_nil))
 (pss_cons (ps_for PassesOwn.never rfl (pi_range1 (by rfl) T.m_range (pa_cons (pv 2) pa_nil)) (pg_name (i := 6) sc__law_draw_sum.nd rfl (.inl rfl))
 (pss_cons (ps_set (i := 7) sc__law_draw_sum.nd rfl (.inl rfl) (pe_ix ix_list (pv 0) (pe_op op_add (pe_op op_mulU (pv 4) (pv 2)) (pv 6)) (fun _ _ => rfl)))
 (pss_cons (ps_set (i := 8) sc__law_draw_sum.nd rfl (.inl rfl) (pe_op op_add (pe_op op_mod (pv 7) pe_int) (pe_op op_mulU pe_int (pe_callTy call_int1 (by rfl) T.m_int (by decide +kernel) (pa_cons (pe_cmpR op_eq (pe_op op_mod (pe_op op_fdiv (pv 7) pe_int) pe_int) pe_int (nomark _)) pa_nil)))))
 (pss_cons (ps_set (i := 9) sc__law_draw_sum.nd rfl (.inl rfl) (pe_op op_add (pe_op op_add (pe_op op_add (pv 8) pe_int) (pe_op op_mod (pe_op op_fdiv (pv 7) pe_int) pe_int)) (pe_op op_mulU pe_int (pe_callTy call_int1 (by rfl) T.m_int (by decide +kernel) (pa_cons (pe_cmpR op_eq (pe_op op_mod (pe_op op_fdiv (pv 7) pe_int) pe_int) pe_int (nomark _)) pa_nil)))))
 (pss_one (ps_set (i := 5) sc__law_draw_sum.nd rfl (.inl rfl) (pe_call (ok__law_row_times T) (hr.mono (by decide)) (by rfl) T.g__law_row_times T.F__law_row_times.kp T.b__law_row_times .nil pass0 (pa_cons (pv 5) (pa_cons (pe_tup (pa_cons (pe_tup (pa_cons (pe_tup (pa_cons (pv 8) (pa_cons (pv 9) pa_nil))) (pa_cons (pe_op op_sub (pe_op op_mod (pe_op op_fdiv (pv 7) pe_int) pe_int) pe_int) pa_nil))) pa_nil)) pa_nil)))))))))
 (pss_one (ps_expr (pe_bm PySem.F.plainAttrs_list PySem.F.slot_list_append PySem.F.type_list_append mt_append (pv 3) (pa_cons (pe_tup (pa_cons (pv 5) (pa_cons (pe_op op_sub (pe_op op_mod (pe_op op_fdiv (pe_ix ix_list (pv 0) (pv 4) (fun _ _ => rfl)) pe_int) pe_int) pe_int) pa_nil))) pa_nil)))))))
 (pss_one (ps_ret (pe_call (ok__law_settled T) (hr.mono (by decide)) (by rfl) T.g__law_settled T.F__law_settled.kp T.b__law_settled .nil pass0 (pa_cons (pv 3) pa_nil)))))), ?_⟩
    refine ⟨Nat.zero_le _, fun p hp => ?_⟩
    refine ⟨_, rfl, _, rfl, by omega, by omega, for_range (lo := 0) (n := tn) (fun k σ H' => ∃ (ml : List (NestedKey × Int)) (ys : List V) (y4 y5 y6 y7 y8 y9 : Option V), σ = [some (.ref r), some (.int tn), some (.int mk), some (.ref p), y4, y5, y6, y7, y8, y9] ∧
        Same H H' ∧ H' p = some (.lst ys) ∧ PrAll H' ml ys ∧ (∀ z ∈ ml, IsRow z.1) ∧ ml.length = k ∧ (∀ z ∈ ml, z.2.natAbs ≤ 4) ∧ ∀ z ∈ ml, (unrow z.1).length ≤ 5) ⟨[], [], _, _, _, _, _, _, rfl, same_new hp, upd_same, .nil, (fun z hz => by cases hz), rfl, (fun z hz => by cases hz), (fun z hz => by cases hz)⟩ ?_ ?_⟩
    · rintro k σ H1 hk ⟨ml, ys, y4, y5, y6, y7, y8, y9, rfl, s1, hpl, hPl, hrow, hml, hm4, hmu⟩
      refine ⟨Nat.zero_le _, fun c hc => ?_⟩
      refine ⟨_, rfl, _, rfl, by omega, by omega, for_range (lo := 0) (n := mk) (fun i σ H2 => ∃ (c : Addr) (l : List (NestedKey × Int)) (zs : List V) (z6 z7 z8 z9 : Option V), σ = [some (.ref r), some (.int tn), some (.int mk), some (.ref p), some (.int (0 + (k : Int))), some (.ref c), z6, z7, z8, z9] ∧
          Same H1 H2 ∧ H2 c = some (.tup zs) ∧ PrAll H2 l zs ∧ RowOk l ∧ l.length ≤ i) ⟨c, [], [], _, _, _, _, rfl, same_new hc, upd_same, .nil, RowOk.nil, Nat.zero_le _⟩ ?_ ?_⟩
      · rintro i σ H2 hi ⟨c, l, zs, z6, z7, z8, z9, rfl, s2, hcl, hPc, hL, hll⟩
        obtain ⟨v, hv⟩ := draw_at (rs := rs) hk hi hlen
        have R2 := (s1.trans s2).seq hR
        refine ⟨_, rfl, _, rfl, _, rfl, _, _, rfl, rfl, mulR (by omega) (by omega), _, rfl, _, _, rfl, rfl, _, _, _, _, rfl, rfl, R2, hv, ?_⟩
        refine ⟨_, rfl, _, _, rfl, rfl, (by show (0 : Int) < _; decide), _, rfl, _, _, rfl, rfl, ⟨by decide, by decide⟩, _, _, rfl, rfl, (by show (0 : Int) < _; decide), rfl, .inr ⟨_, rfl, ?_⟩⟩
        generalize hj1 : (if decide (V.int ((v.fdiv 97) % 5) = V.int 1) = true then (1 : Int) else 0) = j1
        refine ⟨_, _, rfl, rfl, mulL (by decide) (by decide), _, _, rfl, rfl, ?_⟩
        refine ⟨_, rfl, _, _, rfl, rfl, _, rfl, _, _, rfl, rfl, ⟨by decide, by decide⟩, _, _, rfl, rfl, (by show (0 : Int) < _; decide), _, _, rfl, rfl, ?_⟩
        refine ⟨_, rfl, _, _, rfl, rfl, ⟨by decide, by decide⟩, _, _, rfl, rfl, (by show (0 : Int) < _; decide), rfl, .inr ⟨_, rfl, ?_⟩⟩
        generalize hj2 : (if decide (V.int ((v.fdiv 97) % 5) = V.int 2) = true then (1 : Int) else 0) = j2
        refine ⟨_, _, rfl, rfl, mulL (by decide) (by decide), _, _, rfl, rfl, ?_⟩
        refine ⟨_, rfl, _, rfl, _, rfl, (by show 2 ≤ sizeLine; decide), fun t1 ht1 => ?_⟩
        refine ⟨_, rfl, _, _, rfl, rfl, ⟨by decide, by decide⟩, _, _, rfl, rfl, (by show (0 : Int) < _; decide), _, _, rfl, rfl, (by show 2 ≤ sizeLine; decide), fun t2 ht2 => ?_⟩
        refine ⟨(by show 1 ≤ sizeLine; decide), fun t3 ht3 => ?_⟩
        generalize hH3 : upd H2 t1 _ = H3
        generalize hH4 : upd H3 t2 _ = H4
        generalize hH5 : upd H4 t3 _ = H5
        rw [hH3] at ht2
        rw [hH3, hH4] at ht3
        have sa : Same H2 H3 := by rw [← hH3]; exact same_new ht1
        have sb : Same H3 H4 := by rw [← hH4]; exact same_new ht2
        have sc : Same H4 H5 := by rw [← hH5]; exact same_new ht3
        obtain ⟨a, b, e1⟩ : ∃ a b : Int, H3 t1 = some (.tup [.int a, .int b]) := ⟨_, _, by rw [← hH3]; exact upd_same⟩
        obtain ⟨n, e2⟩ : ∃ n : Int, H4 t2 = some (.tup [.ref t1, .int n]) := ⟨_, by rw [← hH4]; exact upd_same⟩
        have e3 : H5 t3 = some (.tup [.ref t2]) := by rw [← hH5]; exact upd_same
        clear hH3 hH4 hH5
        have s5 := (sa.trans sb).trans sc
        have hmk : Nk H5 (markK a b) (.ref t1) := .tup (sc _ _ (sb _ _ e1)) (.cons (.num _) (.cons (.num _) .nil))
        have hms : ∀ z ∈ l ++ [(markK a b, n)], IsMark z.1 := fun z hz => by
          rcases List.mem_append.mp hz with hz | hz
          · exact hL.rk z hz
          · rw [List.mem_singleton.mp hz]; exact ⟨a, b, rfl⟩
        have hlen1 : (l ++ [(markK a b, n)]).length = l.length + 1 := by rw [List.length_append]; rfl
        refine ⟨c, t3, zs, [.ref t2], l, [(markK a b, n)], rfl, s5 _ _ hcl, e3, hPc.mono s5, .cons (sc _ _ e2) hmk .nil, (by show l.length + 1 ≤ 10000; omega), (keysMark fun z hz => by obtain ⟨u, hu, rfl⟩ := List.mem_map.mp hz; exact hms u hu), fun H6 q' zs' s6 hq' hP' => ?_⟩
        refine ⟨q', _, zs', _, _, _, _, rfl, (s2.trans s5).trans s6, hq', hP', settle_row (by omega) hms, ?_⟩
        have := settle_len (l ++ [(markK a b, n)])
        omega
      · rintro σ H2 ⟨c, l, zs, z6, z7, z8, z9, rfl, s2, hcl, hPc, hL, hll⟩
        have R2 := (s1.trans s2).seq hR
        have hpl2 := s2 _ _ hpl
        obtain ⟨v, hv⟩ := row_at (rs := rs) (k := k) (by omega)
        refine ⟨_, rfl, .inl ⟨rfl, _, .inl (.inl hpl2)⟩, _, rfl, _, rfl, _, rfl, _, _, _, _, rfl, rfl, R2, hv, ?_⟩
        refine ⟨_, _, rfl, rfl, ⟨by decide, by decide⟩, _, _, rfl, rfl, (by show (0 : Int) < _; decide), _, _, rfl, rfl, (by show 2 ≤ sizeLine; decide), fun t ht => ?_⟩
        generalize hH3 : upd H2 t _ = H3
        have sa : Same H2 H3 := by rw [← hH3]; exact same_new ht
        obtain ⟨n, e1, hn4⟩ : ∃ n : Int, H3 t = some (.tup [.ref c, .int n]) ∧ n.natAbs ≤ 4 := ⟨v / 90 % 9 - 4, by rw [← hH3]; exact upd_same, by omega⟩
        clear hH3
        have hp3 := sa _ _ hpl2
        have hyl := hPl.length
        have h4 : (20000 : Nat) < sizeLine := by decide
        refine ⟨p, ys, _, rfl, rfl, hp3, by omega, ?_⟩
        have tk : TupK H3 (upd H3 p (.lst (ys ++ [.ref t]))) := fun d zs' e => by rw [upd_ne (ne_of e hp3 (fun z => nomatch z))]; exact e
        have s3 := (s1.trans s2).trans sa
        refine ⟨ml ++ [(rowK l, n)], ys ++ [.ref t], _, _, _, _, _, _, rfl, same_put s3 hp, upd_same, ?_, ?_, ?_, ?_, ?_⟩
        · exact prAllT tk ((hPl.mono (s2.trans sa)).app (.cons (n := n) e1 ((hPc.mono sa).key (sa _ _ hcl)) .nil))
        · intro z hz
          rcases List.mem_append.mp hz with hz | hz
          · exact hrow z hz
          · rw [List.mem_singleton.mp hz]; exact ⟨l, rfl, hL⟩
        · rw [List.length_append, hml]; rfl
        · intro z hz
          rcases List.mem_append.mp hz with hz | hz
          · exact hm4 z hz
          · rw [List.mem_singleton.mp hz]; exact hn4
        · intro z hz
          rcases List.mem_append.mp hz with hz | hz
          · exact hmu z hz
          · rw [List.mem_singleton.mp hz]
            show (unrow (rowK l)).length ≤ 5
            rw [unrow_row]
            omega
    · rintro σ H1 ⟨ml, ys, y4, y5, y6, y7, y8, y9, rfl, s1, hpl, hPl, hrow, hml, hm4, hmu⟩
      refine ⟨_, rfl, p, ys, ml, rfl, .inl (.inl hpl), hPl, by omega, (keysRow fun z hz => by obtain ⟨u, hu, rfl⟩ := List.mem_map.mp hz; exact hrow u hu), fun H' q' zs sa hq hqz hPz => ?_⟩
      exact q H' q' zs _ (s1.trans sa) (s1.free hq) hqz hPz (settle_sum (by omega) hrow) (Nat.le_trans (settle_len ml) (by omega)) (fun z hz => Nat.le_trans (settle_bd hz) (Nat.le_trans (tot_le hm4) (by omega))) (fun z hz => by obtain ⟨u, hu, e⟩ := List.mem_map.mp (settle_keys hz).1; rw [← e]; exact hmu u hu)


/-! ### the program's -/
def sp_plus : Sp := fun vs H Q _ => ∃ (a b : Addr) (xs ys : List V) (l m : List (NestedKey × Int)), vs = [.ref a, .ref b] ∧ H a = some (.lst xs) ∧ H b = some (.lst ys) ∧ PrAll H l xs ∧ PrAll H m ys ∧ l.length + m.length ≤ 10000 ∧ KeysOk ((l ++ m).map (·.1)) ∧
  ∀ H' q zs, Same H H' → H q = none → H' q = some (.lst zs) → PrAll H' (settle (l ++ m)) zs → Q (.ref q) H'
theorem cat_small {a b : Nat} (h : a + b ≤ 10000) : a + b ≤ sizeLine := by
  have h4 : (20000 : Nat) < sizeLine := by decide
  omega
theorem ok_sum_plus (T : Env K mg) : FnOk P w K mg base CX0 2 T.a_sum_plus T.fd_sum_plus ["one", "other"] sp_plus := by
  refine T.F_sum_plus.ok sc_sum_plus (fun vs H Q E h => ?_) (fun cdv A outer s H vs Q E hr h => ?_)
  · obtain ⟨a, b, xs, ys, l, m, rfl, _⟩ := h
    rfl
  · obtain ⟨a, b, xs, ys, l, m, rfl, ha, hb, hl, hm, hlen, hK, q⟩ := h
    refine ⟨_, (pss_one (ps_ret (pe_call (ok_gathered T) (hr.mono (by decide)) (by rfl) T.g_gathered T.F_gathered.kp T.b_gathered .nil pass0 (pa_cons (pe_op op_cat (pv 0) (pv 1)) pa_nil)))), ?_⟩
    have h1 := hl.length
    have h2 := hm.length
    refine ⟨_, rfl, _, rfl, a, b, xs, ys, rfl, rfl, ha, hb, cat_small (by omega), fun p hp => ?_⟩
    have s1 := same_new (o := .lst (xs ++ ys)) hp
    refine ⟨p, xs ++ ys, l ++ m, rfl, .inl (.inl upd_same), (hl.app hm).mono s1, (by rw [List.length_append]; exact hlen), hK, fun H' q' zs s2 hq hz hP => ?_⟩
    exact q H' q' zs (s1.trans s2) (s1.free hq) hz hP
def letK (x y : Int) : NestedKey := rowK [(markK x y, 1)]
def sp_letter : Sp := fun vs H Q _ => ∃ x y : Int, vs = [.int x, .int y] ∧
  ∀ H' q zs, Same H H' → H q = none → H' q = some (.lst zs) → PrAll H' [(letK (if y < x then y else x) (if y > x then y else x), 1)] zs → Q (.ref q) H'
/-- the display of one letter -/
theorem let_made {H : Hp} {t1 t2 t3 t4 q : Addr} {x y : Int} {H1 H2 H3 H4 H5 : Hp} (h1 : H t1 = none) (e1 : upd H t1 (.tup [.int x, .int y]) = H1) (h2 : H1 t2 = none) (e2 : upd H1 t2 (.tup [.ref t1, .int 1]) = H2)
    (h3 : H2 t3 = none) (e3 : upd H2 t3 (.tup [.ref t2]) = H3) (h4 : H3 t4 = none) (e4 : upd H3 t4 (.tup [.ref t3, .int 1]) = H4) (h5 : H4 q = none) (e5 : upd H4 q (.lst [.ref t4]) = H5) :
    Same H H5 ∧ H q = none ∧ H5 q = some (.lst [.ref t4]) ∧ PrAll H5 [(letK x y, 1)] [.ref t4] := by
  have s1 : Same H H1 := by rw [← e1]; exact same_new h1
  have s2 : Same H1 H2 := by rw [← e2]; exact same_new h2
  have s3 : Same H2 H3 := by rw [← e3]; exact same_new h3
  have s4 : Same H3 H4 := by rw [← e4]; exact same_new h4
  have s5 : Same H4 H5 := by rw [← e5]; exact same_new h5
  have g1 : H1 t1 = some (.tup [.int x, .int y]) := by rw [← e1]; exact upd_same
  have g2 : H2 t2 = some (.tup [.ref t1, .int 1]) := by rw [← e2]; exact upd_same
  have g3 : H3 t3 = some (.tup [.ref t2]) := by rw [← e3]; exact upd_same
  have g4 : H4 t4 = some (.tup [.ref t3, .int 1]) := by rw [← e4]; exact upd_same
  have g5 : H5 q = some (.lst [.ref t4]) := by rw [← e5]; exact upd_same
  have s35 := s4.trans s5
  have s25 := s3.trans s35
  have s15 := s2.trans s25
  refine ⟨s1.trans s15, ((s1.trans s2).trans (s3.trans s4)).free h5, g5, .cons (s5 _ _ g4) (.tup (s35 _ _ g3) (.cons (.tup (s25 _ _ g2) (.cons (.tup (s15 _ _ g1) (.cons (.num _) (.cons (.num _) .nil))) (.cons (.num _) .nil))) .nil)) .nil⟩
def sp_pairN : Sp := fun vs H Q _ => ∃ x y : Int, vs = [.int x, .int y] ∧ ∀ t, H t = none → Q (.ref t) (upd H t (.tup [.int (if y < x then y else x), .int (if y > x then y else x)]))
theorem ok_pair_of (T : Env K mg) : FnOk P w K mg base CX0 1 T.a_pair_of T.fd_pair_of ["a", "b"] sp_pairN := by
  refine T.F_pair_of.ok sc_pair_of (fun vs H Q E h => ?_) (fun cdv A outer s H vs Q E hr h => ?_)
  · obtain ⟨a, b, rfl, _⟩ := h
    rfl
  · obtain ⟨a, b, rfl, q⟩ := h
    refine ⟨_, (pss_one (ps_ret (pe_tup (pa_cons (pe_callB (call_min2 rfl) (by rfl) T.m_min (by decide +kernel) (pa_cons (pv 0) (pa_cons (pv 1) pa_nil))) (pa_cons (pe_callB (call_max2 rfl) (by rfl) T.m_max (by decide +kernel) (pa_cons (pv 0) (pa_cons (pv 1) pa_nil))) pa_nil))))), ?_⟩
    exact ⟨_, rfl, _, rfl, _, _, rfl, _, rfl, _, rfl, _, _, rfl, (by show 2 ≤ sizeLine; decide), fun t ht => q t ht⟩
theorem ok_letter (T : Env K mg) : FnOk P w K mg base CX0 2 T.a_letter T.fd_letter ["a", "b"] sp_letter := by
  refine T.F_letter.ok sc_letter (fun vs H Q E h => ?_) (fun cdv A outer s H vs Q E hr h => ?_)
  · obtain ⟨x, y, rfl, _⟩ := h
    rfl
  · obtain ⟨x, y, rfl, q⟩ := h
    refine ⟨_, (pss_one (ps_ret (pe_lst (pa_cons (pe_tup (pa_cons (pe_tup (pa_cons (pe_tup (pa_cons (pe_call (ok_pair_of T) (hr.mono (by decide)) (by rfl) T.g_pair_of T.F_pair_of.kp T.b_pair_of .nil pass0 (pa_cons (pv 0) (pa_cons (pv 1) pa_nil))) (pa_cons pe_int pa_nil))) pa_nil)) (pa_cons pe_int pa_nil))) pa_nil)))), ?_⟩
    refine ⟨_, rfl, _, rfl, x, y, rfl, fun t1 h1 => ⟨(by show 2 ≤ sizeLine; decide), fun t2 h2 => ⟨(by show 1 ≤ sizeLine; decide), fun t3 h3 => ⟨(by show 2 ≤ sizeLine; decide), fun t4 h4 => ⟨(by show 1 ≤ sizeLine; decide), fun r h5 => ?_⟩⟩⟩⟩⟩
    obtain ⟨z1, z2, z3, z4⟩ := let_made h1 rfl h2 rfl h3 rfl h4 rfl h5 rfl
    exact q _ r _ z1 z2 z3 z4

/-! ### the law -/
def sp_law (K : PySem.W.Frag) : Sp := fun vs H Q _ => ∃ (a : Addr) (ns : List Int), vs = [.ref a] ∧ SqL K H a (ns.map V.int) ∧ ns.length ≤ 63 ∧ ∀ H', Q (.bl true) H'
theorem cut_ints (rs : List Int) (lo : Int) (h0 : 0 ≤ lo) : ∃ rs' : List Int, cutV (rs.map V.int) (some lo) none = rs'.map V.int ∧ rs'.length = rs.length - lo.toNat := by
  refine ⟨(rs.drop lo.toNat), ?_, List.length_drop⟩
  unfold cutV
  rw [HT.sIx_none]
  have e : HT.sIx (rs.map V.int).length 0 (some lo) = min lo.toNat (rs.map V.int).length := by
    show (if lo < 0 then _ else _) = _
    rw [if_neg (by omega)]
  rw [e, List.length_map]
  have h2 : (rs.map V.int).drop (min lo.toNat rs.length) = (rs.drop lo.toNat).map V.int := by
    rw [List.map_drop]
    rcases Nat.le_total lo.toNat rs.length with h | h
    · rw [Nat.min_eq_left h]
    · rw [Nat.min_eq_right h, List.drop_of_length_le (by rw [List.length_map]; exact Nat.le_refl _), List.drop_of_length_le (by rw [List.length_map]; exact h)]
  rw [h2, List.take_of_length_le]
  rw [List.length_map, List.length_drop]
  omega
theorem int_at {rs : List Int} {k : Nat} (h : k < rs.length) : ∃ v : Int, v ∈ rs ∧ atI (rs.map V.int) (k : Int) = some (.int v) := by
  refine ⟨rs[k], List.getElem_mem h, atI_nat ?_⟩
  rw [List.getElem?_map, List.getElem?_eq_getElem h]
  rfl

/-- a sum that stands at q -/
structure SumAt (H : Hp) (q : Addr) (l : List (NestedKey × Int)) : Prop where
  ex : ∃ xs, H q = some (.lst xs) ∧ PrAll H l xs
  ok : SumOk l
  few : l.length ≤ 10
theorem SumAt.mono {H H' : Hp} {q : Addr} {l : List (NestedKey × Int)} (s : Same H H') (h : SumAt H q l) : SumAt H' q l := by
  obtain ⟨xs, h1, h2⟩ := h.ex
  exact ⟨⟨xs, s _ _ h1, h2.mono s⟩, h.ok, h.few⟩
theorem eqv_sh {d : PyData} (h : SeqAt.shaped d = true) : PyData.eqv d d = true := SeqAt.eqv_refl _ (SeqAt.canLay_of_shaped h)
theorem yes_read {A B : Hp → Prop} {σ : L2.St} {H : Hp} (h : A H) : tYes σ H (fun b H3 => if b = true then A H3 else B H3) := by
  show if true = true then A H else B H
  rw [if_pos rfl]
  exact h
def midL (a p : Addr) (H1 : Hp) : L2.St → Hp → Prop := fun σ H => ∃ (o u : Addr) (l m : List (NestedKey × Int)), σ = [some (.ref a), some (.ref p), some (.ref o), some (.ref u), none, none, none, none, none, none, none, none] ∧ Same H1 H ∧ SumAt H o l ∧ SumAt H u m
theorem ok_law (T : Env K mg) : FnOk P w K mg base CX0 4 T.a_law T.fd_law ["_law_script"] (sp_law K) := by
  refine T.F_law.ok sc_law (fun vs H Q E h => ?_) (fun cdv A outer s H vs Q E hr h => ?_)
  · obtain ⟨a, ns, rfl, _⟩ := h
    rfl
  · obtain ⟨a, ns, rfl, hS, hl, q⟩ := h
    refine ⟨_, (pss_cons (ps_set (i := 1) sc_law.nd rfl (.inl rfl) (pe_call (ok__law_flow T) (hr.mono (by decide)) (by rfl) T.g__law_flow T.F__law_flow.kp T.b__law_flow .nil pass0 (pa_cons (pv 0) (pa_cons pe_int pa_nil))))
 (pss_cons (ps_set (i := 2) sc_law.nd rfl (.inl rfl) (pe_call (ok__law_draw_sum T) (hr.mono (by decide)) (by rfl) T.g__law_draw_sum T.F__law_draw_sum.kp T.b__law_draw_sum .nil pass0 (pa_cons (pe_slice sl_list (pv 1) (po_some pe_int) po_none) (pa_cons (pe_op op_mod (pe_ix ix_list (pv 1) pe_int (fun _ _ => rfl)) pe_int) (pa_cons pe_int pa_nil)))))
 (pss_cons (ps_set (i := 3) sc_law.nd rfl (.inl rfl) (pe_call (ok__law_draw_sum T) (hr.mono (by decide)) (by rfl) T.g__law_draw_sum T.F__law_draw_sum.kp T.b__law_draw_sum .nil pass0 (pa_cons (pe_slice sl_list (pv 1) (po_some pe_int) po_none) (pa_cons (pe_op op_mod (pe_ix ix_list (pv 1) pe_int (fun _ _ => rfl)) pe_int) (pa_cons pe_int pa_nil)))))
 (C8.pss_cut (ps_if (pt_cmpR op_eq (pe_op op_mod (pe_ix ix_list (pv 1) pe_int (fun _ _ => rfl)) pe_int) pe_int (nomark _))
 (pss_one (ps_set (i := 3) sc_law.nd rfl (.inl rfl) (pe_lst pa_nil)))
 pss_nil)
 (C8.pss_cut (ps_if (pt_cmpR op_eq (pe_op op_mod (pe_ix ix_list (pv 1) pe_int (fun _ _ => rfl)) pe_int) pe_int (nomark _))
 (pss_one (ps_setLc (i := 3) (own := [("_law_term", 11)]) (by rfl) sc_law.nd rfl rfl (sw_true rfl rfl rfl (by decide +kernel)) (pi_list (pv 2)) (blkOk_by (own := [("_law_term", 11)]) (N := ["_law_script", "_law_row", "_law_one", "_law_other", "_law_handed", "_law_made", "_law_a", "_law_b", "_law_due", "_law_first", "_law_second", "_law_term"]) (sc := defScope s_law) (by decide +kernel)) (fun _ _ _ _ _ => (pg_name (i := 11) sc_law.nd rfl (.inl rfl))) (fun _ _ _ _ _ => pts_nil) (fun _ _ _ _ _ => (pe_tup (pa_cons (pe_ix (r := rIxT K) ix_tup (pv 11) pe_int (fun _ _ => rfl)) (pa_cons (pe_un un_neg (pe_ix (r := rIxT K) ix_tup (pv 11) pe_int (fun _ _ => rfl))) pa_nil))))))
 pss_nil)
 (C8.pss_cut (ps_if (pt_cmpR op_eq (pe_op op_mod (pe_ix ix_list (pv 1) pe_int (fun _ _ => rfl)) pe_int) pe_int (nomark _))
 (pss_one (ps_set (i := 2) sc_law.nd rfl (.inl rfl) (pe_lst pa_nil)))
 pss_nil)
 (pss_cons (ps_set (i := 4) sc_law.nd rfl (.inl rfl) (pe_lst (pa_cons (pe_callTy call_list_of (by rfl) T.m_list (by decide +kernel) (pa_cons (pv 2) pa_nil)) (pa_cons (pe_callTy call_list_of (by rfl) T.m_list (by decide +kernel) (pa_cons (pv 3) pa_nil)) pa_nil))))
 (pss_cons (ps_set (i := 5) sc_law.nd rfl (.inl rfl) (pe_call (ok_sum_plus T) (hr.mono (by decide)) (by rfl) T.g_sum_plus T.F_sum_plus.kp T.b_sum_plus .nil pass0 (pa_cons (pe_ix ix_list (pv 4) pe_int (fun _ _ => rfl)) (pa_cons (pe_ix ix_list (pv 4) pe_int (fun _ _ => rfl)) pa_nil))))
 (pss_cons (ps_if (PW.pt (pw_or (pt_not (pt_val (pe_call (ok__law_sum T) (hr.mono (by decide)) (by rfl) T.g__law_sum T.F__law_sum.kp T.b__law_sum .nil pass0 (pa_cons (pv 5) pa_nil)))) (pw_or (pt_cmpR (op_neD hr.units) (pv 5) (pe_call (ok__law_settled T) (hr.mono (by decide)) (by rfl) T.g__law_settled T.F__law_settled.kp T.b__law_settled .nil pass0 (pa_cons (pe_op op_cat (pv 2) (pv 3)) pa_nil)) (nomark _)) (pw_or1 (pt_cmpR (op_neD hr.units) (pv 4) (pe_lst (pa_cons (pv 2) (pa_cons (pv 3) pa_nil))) (nomark _))))))
 (pss_one (ps_ret pe_bl))
 pss_nil)
 (pss_cons (ps_expr (pe_bm PySem.F.plainAttrs_list PySem.F.slot_list_append PySem.F.type_list_append mt_append (pv 5) (pa_cons (pe_tup (pa_cons (pe_tup pa_nil) (pa_cons pe_int pa_nil))) pa_nil)))
 (pss_cons (ps_if (pt_cmpR (op_neD hr.units) (pv 4) (pe_lst (pa_cons (pv 2) (pa_cons (pv 3) pa_nil))) (nomark _))
 (pss_one (ps_ret pe_bl))
 pss_nil)
 (pss_cons (ps_set (i := 6) sc_law.nd rfl (.inl rfl) (pe_ix ix_list (pv 1) pe_int (fun _ _ => rfl)))
 (C8.pss_cut (ps_if (pt_cmpR op_eq (pe_op op_mod (pe_op op_fdiv (pe_ix ix_list (pv 1) pe_int (fun _ _ => rfl)) pe_int) pe_int) pe_int (nomark _))
 (pss_one (ps_set (i := 6) sc_law.nd rfl (.inl rfl) (pe_op op_add (pv 6) (pe_op op_pow pe_int pe_int))))
 pss_nil)
 (pss_cons (ps_set (i := 7) sc_law.nd rfl (.inl rfl) (pe_op op_add (pe_op op_add (pv 6) pe_int) (pe_ix ix_list (pv 1) pe_int (fun _ _ => rfl))))
 (pss_cons (ps_set (i := 8) sc_law.nd rfl (.inl rfl) (pe_lst (pa_cons (pe_tup (pa_cons (pe_tup (pa_cons (pe_tup (pa_cons (pe_tup (pa_cons (pv 6) (pa_cons (pv 7) pa_nil))) (pa_cons pe_int pa_nil))) pa_nil)) (pa_cons pe_int pa_nil))) pa_nil)))
 (pss_cons (ps_set (i := 9) sc_law.nd rfl (.inl rfl) (pe_call (ok_letter T) (hr.mono (by decide)) (by rfl) T.g_letter T.F_letter.kp T.b_letter .nil pass0 (pa_cons (pv 6) (pa_cons (pv 7) pa_nil))))
 (pss_cons (ps_set (i := 10) sc_law.nd rfl (.inl rfl) (pe_call (ok_letter T) (hr.mono (by decide)) (by rfl) T.g_letter T.F_letter.kp T.b_letter .nil pass0 (pa_cons (pv 7) (pa_cons (pv 6) pa_nil))))
 (pss_one (ps_ret (pe_and (pe_call (ok__law_sum T) (hr.mono (by decide)) (by rfl) T.g__law_sum T.F__law_sum.kp T.b__law_sum .nil pass0 (pa_cons (pv 9) pa_nil)) (pe_and (pe_call (ok__law_sum T) (hr.mono (by decide)) (by rfl) T.g__law_sum T.F__law_sum.kp T.b__law_sum .nil pass0 (pa_cons (pv 10) pa_nil)) (pe_and (pe_cmpR (op_eqD hr.units) (pv 9) (pv 8) (nomark _)) (pe_one (pe_cmpR (op_eqD hr.units) (pv 10) (pv 8) (nomark _))))))))))))))))))))))))), ?_⟩
    refine ⟨_, rfl, a, ns, 64, rfl, hS, hl, by decide, by decide, fun H1 p rs hs hp hlen hro hrow => ?_⟩
    have hlen : rs.length = 64 := hlen
    have hR : ∀ {H2}, Same H1 H2 → SqL K H2 p (rs.map V.int) := fun s => .inl (.inl (s _ _ hrow))
    obtain ⟨r0, m0, a0⟩ := int_at (rs := rs) (k := 0) (by omega)
    obtain ⟨r1, m1, a1⟩ := int_at (rs := rs) (k := 1) (by omega)
    obtain ⟨r2, m2, a2⟩ := int_at (rs := rs) (k := 2) (by omega)
    obtain ⟨r3, m3, a3⟩ := int_at (rs := rs) (k := 3) (by omega)
    have b0 := hro r0 m0
    have b1 := hro r1 m1
    have b2 := hro r2 m2
    have b3 := hro r3 m3
    obtain ⟨c1, ec1, lc1⟩ := cut_ints rs 4 (by decide)
    obtain ⟨c2, ec2, lc2⟩ := cut_ints rs 34 (by decide)
    -- the first sum
    refine ⟨_, rfl, ?_⟩
    refine ⟨4, rfl, p, _, rfl, hR (Same.refl _), fun q1 hq1 => ?_⟩
    have s1 : Same H1 _ := same_new (o := .lst (cutV (rs.map V.int) (some 4) none)) hq1
    have g1 : SqL K (upd H1 q1 (.lst (cutV (rs.map V.int) (some 4) none))) q1 (c1.map V.int) := .inl (.inl (by rw [upd_same, ec1]))
    refine ⟨_, rfl, p, _, _, _, rfl, rfl, hR s1, a1, _, _, rfl, rfl, (by show (0 : Int) < _; decide), ?_⟩
    refine ⟨q1, c1, (r1 % 11).toNat, 3, (by rw [Int.toNat_of_nonneg (by omega)]; rfl), g1, by omega, by decide, by omega, by omega, fun H3 o xo lo s2 no ho hPo hMo hlo _ _ => ?_⟩
    have t1 := s1.trans s2
    clear s1 s2 g1 no
    -- the second
    refine ⟨_, rfl, 34, rfl, p, _, rfl, hR t1, fun q2 hq2 => ?_⟩
    have s3 : Same H3 _ := same_new (o := .lst (cutV (rs.map V.int) (some 34) none)) hq2
    have g2 : SqL K (upd H3 q2 (.lst (cutV (rs.map V.int) (some 34) none))) q2 (c2.map V.int) := .inl (.inl (by rw [upd_same, ec2]))
    refine ⟨_, rfl, p, _, _, _, rfl, rfl, hR (t1.trans s3), a2, _, _, rfl, rfl, (by show (0 : Int) < _; decide), ?_⟩
    refine ⟨q2, c2, (r2 % 11).toNat, 3, (by rw [Int.toNat_of_nonneg (by omega)]; rfl), g2, by omega, by decide, by omega, by omega, fun H4 u xu lu s4 nu hu hPu hMu hlu _ _ => ?_⟩
    have t2 := s3.trans s4
    have t3 := t1.trans t2
    have A1 : SumAt H4 o lo := ⟨⟨xo, t2 _ _ ho, hPo.mono t2⟩, hMo, hlo⟩
    have A2 : SumAt H4 u lu := ⟨⟨xu, hu, hPu⟩, hMu, hlu⟩
    clear s3 s4 g2 nu
    refine ⟨midL a p H1, ?_, ?_⟩
    · refine ⟨_, rfl, p, _, _, _, rfl, rfl, hR t3, a3, _, _, rfl, rfl, (by show (0 : Int) < _; decide), rfl, _, rfl, ite2 (fun _ => ?_) (fun _ => ⟨o, u, _, _, rfl, t3, A1, A2⟩)⟩
      refine ⟨Nat.zero_le _, fun c hc => ?_⟩
      exact ⟨o, c, _, _, rfl, t3.trans (same_new hc), A1.mono (same_new hc), ⟨⟨[], upd_same, .nil⟩, SumOk.nil, Nat.zero_le _⟩⟩
    rintro _ H5 ⟨o, u, l, m, rfl, t5, B1, B2⟩
    refine ⟨midL a p H1, ?_, ?_⟩
    · refine ⟨_, rfl, p, _, _, _, rfl, rfl, hR t5, a0, _, _, rfl, rfl, (by show (0 : Int) < _; decide), rfl, _, rfl, ite2 (fun _ => ?_) (fun _ => ⟨o, u, _, _, rfl, t5, B1, B2⟩)⟩
      obtain ⟨xs, ho, hP⟩ := B1.ex
      refine ⟨_, rfl, o, rfl, ⟨_, .inl (.inl ho)⟩, fun D hD => ?_⟩
      have h4 : (20000 : Nat) < sizeLine := by decide
      refine lc_list (K := K) (a := o) (xs := xs) (fun i H' => ∃ zs, H' D = some (.lst zs) ∧ PrAll H' ((l.take i).map fun p => (p.1, -p.2)) zs ∧ Same H5 H') ?_ ?_ ?_ ?_
      · exact ⟨[], upd_same, by rw [List.take_zero]; exact .nil, same_new hD⟩
      · rintro i H' _ ⟨zs, _, _, s6⟩
        exact .inl (.inl (s6 _ _ ho))
      · rintro i x H' hi ⟨zs, hz, hPz, s6⟩
        obtain ⟨k, n, t, b, hl', rfl, ht, hb⟩ := hP.at hi
        have hT : SqT K H' t [.ref b, .int n] := .inl (.inl (s6 _ _ ht))
        have hfew := B1.few
        have hzl := hPz.length
        rw [List.length_map, List.length_take] at hzl
        refine ⟨rfl, ?_⟩
        refine yes_read ?_
        refine ⟨_, rfl, t, _, _, _, rfl, rfl, hT, atI_nat (j := 0) rfl, _, rfl, t, _, _, _, rfl, rfl, hT, atI_nat (j := 1) rfl, _, rfl, (by show 2 ≤ sizeLine; decide), fun t2 ht2 => ?_⟩
        have s7 := same_new (o := .tup [.ref b, .int (-n)]) ht2
        have e2 : (upd H' t2 (.tup [.ref b, .int (-n)])) t2 = some (.tup [.ref b, .int (-n)]) := upd_same
        generalize upd H' t2 (.tup [.ref b, .int (-n)]) = H7 at *
        have hD7 := s7 _ _ hz
        refine ⟨zs, hD7, by omega, zs ++ [.ref t2], upd_same, ?_, ?_⟩
        · rw [take_more' hl', List.map_append]
          have tk : TupK H7 (upd H7 D (.lst (zs ++ [V.ref t2]))) := fun d zs' e => by rw [upd_ne (ne_of e hD7 (fun z => nomatch z))]; exact e
          exact (prAllT tk (hPz.mono s7)).app (.cons (tk _ _ e2) (nkTup tk _ _ (Nk.mono (s6.trans s7) _ _ hb)) .nil)
        · intro c u e
          have hc : c ≠ D := ne_of_none e hD
          rw [upd_ne hc]
          exact s7 _ _ (s6 _ _ e)
      · rintro H' ⟨zs, hz, hPz, s6⟩
        rw [hP.length, List.take_length] at hPz
        exact ⟨o, D, _, _, rfl, t5.trans s6, B1.mono s6, ⟨⟨zs, hz, hPz⟩, B1.ok.neg, by rw [List.length_map]; exact B1.few⟩⟩
    clear B1 B2 t5
    rintro _ H6 ⟨o, u, l, m, rfl, t5, B1, B2⟩
    refine ⟨midL a p H1, ?_, ?_⟩
    · refine ⟨_, rfl, p, _, _, _, rfl, rfl, hR t5, a0, _, _, rfl, rfl, (by show (0 : Int) < _; decide), rfl, _, rfl, ite2 (fun _ => ?_) (fun _ => ⟨o, u, _, _, rfl, t5, B1, B2⟩)⟩
      refine ⟨Nat.zero_le _, fun c hc => ?_⟩
      exact ⟨c, u, _, _, rfl, t5.trans (same_new hc), ⟨⟨[], upd_same, .nil⟩, SumOk.nil, Nat.zero_le _⟩, B2.mono (same_new hc)⟩
    clear B1 B2 t5
    rintro _ H7 ⟨o, u, l, m, rfl, t7, B1, B2⟩
    obtain ⟨xs, ho, hP⟩ := B1.ex
    obtain ⟨ys, hu, hPu⟩ := B2.ex
    have hf1 := B1.few
    have hf2 := B2.few
    -- what is handed in
    refine ⟨_, rfl, o, xs, rfl, .inl (.inl (.inl ho)), fun h1 n1 => ?_⟩
    have u1 : Same H7 _ := same_new (o := .lst xs) n1
    have e1 : (upd H7 h1 (.lst xs)) h1 = some (.lst xs) := upd_same
    generalize upd H7 h1 (.lst xs) = H8 at *
    refine ⟨_, rfl, u, ys, rfl, .inl (.inl (.inl (u1 _ _ hu))), fun h2 n2 => ?_⟩
    have u2 : Same H8 _ := same_new (o := .lst ys) n2
    have e2 : (upd H8 h2 (.lst ys)) h2 = some (.lst ys) := upd_same
    generalize upd H8 h2 (.lst ys) = H9 at *
    refine ⟨(by show 2 ≤ sizeLine; decide), fun hh n3 => ?_⟩
    have u3 : Same H9 _ := same_new (o := .lst [.ref h1, .ref h2]) n3
    have e3 : (upd H9 hh (.lst [.ref h1, .ref h2])) hh = some (.lst [.ref h1, .ref h2]) := upd_same
    generalize upd H9 hh (.lst [.ref h1, .ref h2]) = HA at *
    have e1 := u3 _ _ (u2 _ _ e1)
    have e2 := u3 _ _ e2
    have u7 := (u1.trans u2).trans u3
    have hHS : SqL K HA hh [.ref h1, .ref h2] := .inl (.inl e3)
    have ho := u7 _ _ ho
    have hu := u7 _ _ hu
    have hP := hP.mono u7
    have hPu := hPu.mono u7
    have t7 := t7.trans u7
    clear u1 u2 u3 u7
    have hKlm : KeysOk ((l ++ m).map (·.1)) := keysRow fun k hk => by
      obtain ⟨z, hz, rfl⟩ := List.mem_map.mp hk
      rcases List.mem_append.mp hz with hz | hz
      · exact B1.ok.rk z hz
      · exact B2.ok.rk z hz
    refine ⟨_, rfl, _, _, _, _, rfl, rfl, hHS, atI_nat (j := 0) rfl, _, rfl, _, _, _, _, rfl, rfl, hHS, atI_nat (j := 1) rfl, h1, h2, xs, ys, l, m, rfl, e1, e2, hP, hPu, by omega, hKlm, fun HB q3 zs sB nB eB hPB => ?_⟩
    have hMs : SumOk (settle (l ++ m)) := settle_sum (by rw [List.length_append]; omega) fun z hz => by
      rcases List.mem_append.mp hz with hz | hz
      · exact B1.ok.rk z hz
      · exact B2.ok.rk z hz
    refine ⟨_, rfl, q3, zs, _, rfl, eB, hPB, hMs, true, rfl, ?_⟩
    show if false = true then _ else _
    rw [if_neg Bool.false_ne_true]
    refine ⟨_, rfl, _, rfl, _, rfl, o, u, xs, ys, rfl, rfl, sB _ _ ho, sB _ _ hu, cat_small (by rw [hP.length, hPu.length]; omega), fun c hc => ?_⟩
    have u1 : Same HB _ := same_new (o := .lst (xs ++ ys)) hc
    refine ⟨c, xs ++ ys, l ++ m, rfl, .inl (.inl upd_same), ((hP.app hPu).mono sB).mono u1, (by rw [List.length_append]; omega), hKlm, fun HC q4 zs4 u2 nC eC hPC => ?_⟩
    have sC := u1.trans u2
    refine ⟨_, _, .lst (.inl (.inl (sC _ _ eB))) (hPB.mono sC).dp, .lst (.inl (.inl eC)) hPC.dp, sum_shaped hMs, sum_shaped hMs, _, rfl, ?_⟩
    rw [eqv_sh (sum_shaped hMs)]
    show if false = true then _ else _
    rw [if_neg Bool.false_ne_true]
    have hD2 := two_shaped B1.ok B2.ok
    have dpH : ∀ {HX}, Same HA HX → Dp K HX (.ref hh) (.list [.list (l.map pdat), .list (m.map pdat)]) := fun s => .lst (.inl (.inl (s _ _ e3))) (.cons (.lst (.inl (.inl (s _ _ e1))) (hP.mono s).dp) (.cons (.lst (.inl (.inl (s _ _ e2))) (hPu.mono s).dp) .nil))
    have dpN : ∀ {HX c}, Same HA HX → HX c = some (.lst [.ref o, .ref u]) → Dp K HX (.ref c) (.list [.list (l.map pdat), .list (m.map pdat)]) := fun s e => .lst (.inl (.inl e)) (.cons (.lst (.inl (.inl (s _ _ ho))) (hP.mono s).dp) (.cons (.lst (.inl (.inl (s _ _ hu))) (hPu.mono s).dp) .nil))
    refine ⟨_, rfl, _, rfl, _, rfl, (by show 2 ≤ sizeLine; decide), fun c2 hc2 => ?_⟩
    have u3 : Same HC _ := same_new (o := .lst [.ref o, .ref u]) hc2
    have sD := (sB.trans sC).trans u3
    have sE := sC.trans u3
    refine ⟨_, _, dpH sD, dpN sD upd_same, hD2, hD2, _, rfl, ?_⟩
    rw [eqv_sh hD2]
    refine iteF ?_
    generalize upd HC c2 _ = HD at *
    -- the told one is changed
    refine ⟨_, rfl, .inl ⟨rfl, _, .inl (.inl (sE _ _ eB))⟩, (by show 0 ≤ sizeLine; decide), fun c3 hc3 => ?_⟩
    have u4 : Same HD _ := same_new (o := .tup []) hc3
    refine ⟨(by show 2 ≤ sizeLine; decide), fun c4 hc4 => ?_⟩
    have u5 := same_new (o := .tup [.ref c3, .int 99]) hc4
    have s6 := (sD.trans u4).trans u5
    have hq6 := (u4.trans u5) _ _ (sE _ _ eB)
    generalize upd (upd HD c3 (.tup [])) c4 _ = HE at *
    have hzl := hPB.length
    have hzl2 := settle_len (l ++ m)
    rw [List.length_append] at hzl2
    have h4 : (20000 : Nat) < sizeLine := by decide
    refine ⟨q3, zs, _, rfl, rfl, hq6, by omega, ?_⟩
    have s7 : Same HA (upd HE q3 (.lst (zs ++ [.ref c4]))) := same_put s6 nB
    generalize upd HE q3 (.lst (zs ++ [.ref c4])) = HF at *
    refine ⟨_, rfl, _, rfl, _, rfl, (by show 2 ≤ sizeLine; decide), fun c5 hc5 => ?_⟩
    have u8 : Same HF _ := same_new (o := .lst [.ref o, .ref u]) hc5
    have s8 := s7.trans u8
    refine ⟨_, _, dpH s8, dpN s8 upd_same, hD2, hD2, _, rfl, ?_⟩
    rw [eqv_sh hD2]
    refine iteF ?_
    have t8 := t7.trans s8
    generalize upd HF c5 _ = HG at *
    clear dpH dpN
    -- the letter
    refine ⟨_, rfl, p, _, _, _, rfl, rfl, hR t8, a3, ?_⟩
    refine ⟨fun σ HX => ∃ (x : Int) (y7 y8 : Option V), σ = [some (.ref a), some (.ref p), some (.ref o), some (.ref u), some (.ref hh), some (.ref q3), some (.int x), none, none, none, none, none] ∧ HX = HG, ?_, ?_⟩
    · refine ⟨_, rfl, p, _, _, _, rfl, rfl, hR t8, a0, _, _, rfl, rfl, ⟨by decide, by decide⟩, _, _, rfl, rfl, (by show (0 : Int) < _; decide), rfl, _, rfl, ite2 (fun _ => ?_) (fun _ => ⟨_, none, none, rfl, rfl⟩)⟩
      exact ⟨_, rfl, _, _, rfl, rfl, ⟨by decide, by decide, by decide⟩, _, _, rfl, rfl, ⟨_, none, none, rfl, rfl⟩⟩
    · rintro _ _ ⟨x, _, _, rfl, rfl⟩
      refine ⟨_, rfl, _, _, rfl, rfl, _, rfl, p, _, _, _, rfl, rfl, hR t8, a2, _, _, rfl, rfl, ?_⟩
      have hxy : x < x + 1 + r2 := by omega
      refine ⟨_, rfl, _, rfl, (by show 2 ≤ sizeLine; decide), fun t1 h1 => ⟨(by show 2 ≤ sizeLine; decide), fun t2 h2 => ⟨(by show 1 ≤ sizeLine; decide), fun t3 h3 => ⟨(by show 2 ≤ sizeLine; decide), fun t4 h4 => ⟨(by show 1 ≤ sizeLine; decide), fun r h5 => ?_⟩⟩⟩⟩⟩
      obtain ⟨z1, z2, z3, z4⟩ := let_made (x := x) (y := x + 1 + r2) h1 rfl h2 rfl h3 rfl h4 rfl h5 rfl
      generalize upd _ r (.lst [.ref t4]) = HI at *
      refine ⟨_, rfl, _, rfl, x, x + 1 + r2, rfl, fun HJ qf zf sf nf ef Pf => ?_⟩
      rw [if_neg (show ¬ x + 1 + r2 < x by omega), if_pos (show x + 1 + r2 > x by omega)] at Pf
      refine ⟨_, rfl, _, rfl, x + 1 + r2, x, rfl, fun HK qs zz ss ns' es Ps => ?_⟩
      rw [if_pos (show x < x + 1 + r2 by omega), if_neg (show ¬ x > x + 1 + r2 by omega)] at Ps
      have hM : SumOk [(letK x (x + 1 + r2), 1)] := SumOk.one ⟨_, rfl, RowOk.one x (x + 1 + r2) (by decide)⟩ (by decide)
      have ef := ss _ _ ef
      have Pf := Pf.mono ss
      have ed := ss _ _ (sf _ _ z3)
      have Pd := (z4.mono sf).mono ss
      refine ⟨_, rfl, qf, zf, _, rfl, ef, Pf, hM, true, rfl, iteT ?_⟩
      refine ⟨_, rfl, qs, zz, _, rfl, es, Ps, hM, true, rfl, iteT ?_⟩
      refine ⟨_, rfl, _, rfl, _, _, .lst (.inl (.inl ef)) Pf.dp, .lst (.inl (.inl ed)) Pd.dp, sum_shaped hM, sum_shaped hM, ?_⟩
      rw [eqv_sh (sum_shaped hM)]
      refine ⟨true, rfl, iteT ?_⟩
      refine ⟨_, rfl, _, rfl, _, _, .lst (.inl (.inl es)) Ps.dp, .lst (.inl (.inl ed)) Pd.dp, sum_shaped hM, sum_shaped hM, ?_⟩
      rw [eqv_sh (sum_shaped hM)]
      exact q HK

theorem all_mk {l : PySem.W.OpenLaw} {w : World} {K : PySem.W.Frag} {h : Heap} {mg : Str → Option Value} {fa f_pair_of f_letter f_sum_plus f_gathered f__law_flow f__law_whole f__law_tuple f__law_sum f__law_row_times f__law_settled f__law_draw_sum f_law : Addr} (X : K.In h) (G : h.Ns mainGlobals mg) (hfa : mg "law" = some (.ref fa))
    {od_pair_of an_pair_of : Option Addr} {sl_pair_of : Array (Option Value)} {oc_pair_of kV_pair_of dc_pair_of pm_pair_of cd_pair_of ct_pair_of : Value}
    {od_letter an_letter : Option Addr} {sl_letter : Array (Option Value)} {oc_letter kV_letter dc_letter pm_letter cd_letter ct_letter : Value}
    {od_sum_plus an_sum_plus : Option Addr} {sl_sum_plus : Array (Option Value)} {oc_sum_plus kV_sum_plus dc_sum_plus pm_sum_plus cd_sum_plus ct_sum_plus : Value}
    {od_gathered an_gathered : Option Addr} {sl_gathered : Array (Option Value)} {oc_gathered kV_gathered dc_gathered pm_gathered cd_gathered ct_gathered : Value}
    {od__law_flow an__law_flow : Option Addr} {sl__law_flow : Array (Option Value)} {oc__law_flow kV__law_flow dc__law_flow pm__law_flow cd__law_flow ct__law_flow : Value}
    {od__law_whole an__law_whole : Option Addr} {sl__law_whole : Array (Option Value)} {oc__law_whole kV__law_whole dc__law_whole pm__law_whole cd__law_whole ct__law_whole : Value}
    {od__law_tuple an__law_tuple : Option Addr} {sl__law_tuple : Array (Option Value)} {oc__law_tuple kV__law_tuple dc__law_tuple pm__law_tuple cd__law_tuple ct__law_tuple : Value}
    {od__law_sum an__law_sum : Option Addr} {sl__law_sum : Array (Option Value)} {oc__law_sum kV__law_sum dc__law_sum pm__law_sum cd__law_sum ct__law_sum : Value}
    {od__law_row_times an__law_row_times : Option Addr} {sl__law_row_times : Array (Option Value)} {oc__law_row_times kV__law_row_times dc__law_row_times pm__law_row_times cd__law_row_times ct__law_row_times : Value}
    {od__law_settled an__law_settled : Option Addr} {sl__law_settled : Array (Option Value)} {oc__law_settled kV__law_settled dc__law_settled pm__law_settled cd__law_settled ct__law_settled : Value}
    {od__law_draw_sum an__law_draw_sum : Option Addr} {sl__law_draw_sum : Array (Option Value)} {oc__law_draw_sum kV__law_draw_sum dc__law_draw_sum pm__law_draw_sum cd__law_draw_sum ct__law_draw_sum : Value}
    {od_law an_law : Option Addr} {sl_law : Array (Option Value)} {oc_law kV_law dc_law pm_law cd_law ct_law : Value}
    (a_pair_of : PySem.W.nsIn K mainGlobals "pair_of" = some (some (.ref f_pair_of)))
    (l_pair_of : K.lookup f_pair_of = some ⟨oc_pair_of, od_pair_of, .func (PySem.W.fnOf "pair_of" "pair_of" (defArgs s_pair_of) (defBody s_pair_of) (defScope s_pair_of) .none kV_pair_of dc_pair_of pm_pair_of an_pair_of cd_pair_of ct_pair_of), sl_pair_of⟩)
    (c_pair_of : PySem.W.codeIn K cd_pair_of "pair_of" = true)
    (k_pair_of : PySem.W.keepIn K (.ref f_pair_of) = true)
    (a_letter : PySem.W.nsIn K mainGlobals "letter" = some (some (.ref f_letter)))
    (l_letter : K.lookup f_letter = some ⟨oc_letter, od_letter, .func (PySem.W.fnOf "letter" "letter" (defArgs s_letter) (defBody s_letter) (defScope s_letter) .none kV_letter dc_letter pm_letter an_letter cd_letter ct_letter), sl_letter⟩)
    (c_letter : PySem.W.codeIn K cd_letter "letter" = true)
    (k_letter : PySem.W.keepIn K (.ref f_letter) = true)
    (a_sum_plus : PySem.W.nsIn K mainGlobals "sum_plus" = some (some (.ref f_sum_plus)))
    (l_sum_plus : K.lookup f_sum_plus = some ⟨oc_sum_plus, od_sum_plus, .func (PySem.W.fnOf "sum_plus" "sum_plus" (defArgs s_sum_plus) (defBody s_sum_plus) (defScope s_sum_plus) .none kV_sum_plus dc_sum_plus pm_sum_plus an_sum_plus cd_sum_plus ct_sum_plus), sl_sum_plus⟩)
    (c_sum_plus : PySem.W.codeIn K cd_sum_plus "sum_plus" = true)
    (k_sum_plus : PySem.W.keepIn K (.ref f_sum_plus) = true)
    (a_gathered : PySem.W.nsIn K mainGlobals "gathered" = some (some (.ref f_gathered)))
    (l_gathered : K.lookup f_gathered = some ⟨oc_gathered, od_gathered, .func (PySem.W.fnOf "gathered" "gathered" (defArgs s_gathered) (defBody s_gathered) (defScope s_gathered) .none kV_gathered dc_gathered pm_gathered an_gathered cd_gathered ct_gathered), sl_gathered⟩)
    (c_gathered : PySem.W.codeIn K cd_gathered "gathered" = true)
    (k_gathered : PySem.W.keepIn K (.ref f_gathered) = true)
    (a__law_flow : PySem.W.nsIn K mainGlobals "_law_flow" = some (some (.ref f__law_flow)))
    (l__law_flow : K.lookup f__law_flow = some ⟨oc__law_flow, od__law_flow, .func (PySem.W.fnOf "_law_flow" "_law_flow" (defArgs s__law_flow) (defBody s__law_flow) (defScope s__law_flow) .none kV__law_flow dc__law_flow pm__law_flow an__law_flow cd__law_flow ct__law_flow), sl__law_flow⟩)
    (c__law_flow : PySem.W.codeIn K cd__law_flow "_law_flow" = true)
    (k__law_flow : PySem.W.keepIn K (.ref f__law_flow) = true)
    (a__law_whole : PySem.W.nsIn K mainGlobals "_law_whole" = some (some (.ref f__law_whole)))
    (l__law_whole : K.lookup f__law_whole = some ⟨oc__law_whole, od__law_whole, .func (PySem.W.fnOf "_law_whole" "_law_whole" (defArgs s__law_whole) (defBody s__law_whole) (defScope s__law_whole) .none kV__law_whole dc__law_whole pm__law_whole an__law_whole cd__law_whole ct__law_whole), sl__law_whole⟩)
    (c__law_whole : PySem.W.codeIn K cd__law_whole "_law_whole" = true)
    (k__law_whole : PySem.W.keepIn K (.ref f__law_whole) = true)
    (a__law_tuple : PySem.W.nsIn K mainGlobals "_law_tuple" = some (some (.ref f__law_tuple)))
    (l__law_tuple : K.lookup f__law_tuple = some ⟨oc__law_tuple, od__law_tuple, .func (PySem.W.fnOf "_law_tuple" "_law_tuple" (defArgs s__law_tuple) (defBody s__law_tuple) (defScope s__law_tuple) .none kV__law_tuple dc__law_tuple pm__law_tuple an__law_tuple cd__law_tuple ct__law_tuple), sl__law_tuple⟩)
    (c__law_tuple : PySem.W.codeIn K cd__law_tuple "_law_tuple" = true)
    (k__law_tuple : PySem.W.keepIn K (.ref f__law_tuple) = true)
    (a__law_sum : PySem.W.nsIn K mainGlobals "_law_sum" = some (some (.ref f__law_sum)))
    (l__law_sum : K.lookup f__law_sum = some ⟨oc__law_sum, od__law_sum, .func (PySem.W.fnOf "_law_sum" "_law_sum" (defArgs s__law_sum) (defBody s__law_sum) (defScope s__law_sum) .none kV__law_sum dc__law_sum pm__law_sum an__law_sum cd__law_sum ct__law_sum), sl__law_sum⟩)
    (c__law_sum : PySem.W.codeIn K cd__law_sum "_law_sum" = true)
    (k__law_sum : PySem.W.keepIn K (.ref f__law_sum) = true)
    (a__law_row_times : PySem.W.nsIn K mainGlobals "_law_row_times" = some (some (.ref f__law_row_times)))
    (l__law_row_times : K.lookup f__law_row_times = some ⟨oc__law_row_times, od__law_row_times, .func (PySem.W.fnOf "_law_row_times" "_law_row_times" (defArgs s__law_row_times) (defBody s__law_row_times) (defScope s__law_row_times) .none kV__law_row_times dc__law_row_times pm__law_row_times an__law_row_times cd__law_row_times ct__law_row_times), sl__law_row_times⟩)
    (c__law_row_times : PySem.W.codeIn K cd__law_row_times "_law_row_times" = true)
    (k__law_row_times : PySem.W.keepIn K (.ref f__law_row_times) = true)
    (a__law_settled : PySem.W.nsIn K mainGlobals "_law_settled" = some (some (.ref f__law_settled)))
    (l__law_settled : K.lookup f__law_settled = some ⟨oc__law_settled, od__law_settled, .func (PySem.W.fnOf "_law_settled" "_law_settled" (defArgs s__law_settled) (defBody s__law_settled) (defScope s__law_settled) .none kV__law_settled dc__law_settled pm__law_settled an__law_settled cd__law_settled ct__law_settled), sl__law_settled⟩)
    (c__law_settled : PySem.W.codeIn K cd__law_settled "_law_settled" = true)
    (k__law_settled : PySem.W.keepIn K (.ref f__law_settled) = true)
    (a__law_draw_sum : PySem.W.nsIn K mainGlobals "_law_draw_sum" = some (some (.ref f__law_draw_sum)))
    (l__law_draw_sum : K.lookup f__law_draw_sum = some ⟨oc__law_draw_sum, od__law_draw_sum, .func (PySem.W.fnOf "_law_draw_sum" "_law_draw_sum" (defArgs s__law_draw_sum) (defBody s__law_draw_sum) (defScope s__law_draw_sum) .none kV__law_draw_sum dc__law_draw_sum pm__law_draw_sum an__law_draw_sum cd__law_draw_sum ct__law_draw_sum), sl__law_draw_sum⟩)
    (c__law_draw_sum : PySem.W.codeIn K cd__law_draw_sum "_law_draw_sum" = true)
    (k__law_draw_sum : PySem.W.keepIn K (.ref f__law_draw_sum) = true)
    (a_law : PySem.W.nsIn K mainGlobals "law" = some (some (.ref f_law)))
    (l_law : K.lookup f_law = some ⟨oc_law, od_law, .func (PySem.W.fnOf "law" "law" (defArgs s_law) (defBody s_law) (defScope s_law) .none kV_law dc_law pm_law an_law cd_law ct_law), sl_law⟩)
    (c_law : PySem.W.codeIn K cd_law "law" = true)
    (k_law : PySem.W.keepIn K (.ref f_law) = true)
    (z_abs : PySem.W.nsIn K mainGlobals "abs" = some none)
    (z_bool : PySem.W.nsIn K mainGlobals "bool" = some none)
    (z_int : PySem.W.nsIn K mainGlobals "int" = some none)
    (z_isinstance : PySem.W.nsIn K mainGlobals "isinstance" = some none)
    (z_len : PySem.W.nsIn K mainGlobals "len" = some none)
    (z_list : PySem.W.nsIn K mainGlobals "list" = some none)
    (z_max : PySem.W.nsIn K mainGlobals "max" = some none)
    (z_min : PySem.W.nsIn K mainGlobals "min" = some none)
    (z_range : PySem.W.nsIn K mainGlobals "range" = some none)
    (z_sorted : PySem.W.nsIn K mainGlobals "sorted" = some none)
    (z_tuple : PySem.W.nsIn K mainGlobals "tuple" = some none)
    : ∃ fd : FuncData, (∀ (s : Shared) (v : Value), BindsTo s fd ⟨[v], []⟩ [("_law_script", v)]) ∧ ∀ base : Heap, K.In base → base.Ns mainGlobals mg → FnOk l.prog w K mg base CX0 4 fa fd ["_law_script"] (sp_law K) := by
  have e := hfa.symm.trans (PySem.W.mg_of X G a_law)
  cases e
  have F_pair_of := fun_mk (st := s_pair_of) l_pair_of c_pair_of k_pair_of
  have F_letter := fun_mk (st := s_letter) l_letter c_letter k_letter
  have F_sum_plus := fun_mk (st := s_sum_plus) l_sum_plus c_sum_plus k_sum_plus
  have F_gathered := fun_mk (st := s_gathered) l_gathered c_gathered k_gathered
  have F__law_flow := fun_mk (st := s__law_flow) l__law_flow c__law_flow k__law_flow
  have F__law_whole := fun_mk (st := s__law_whole) l__law_whole c__law_whole k__law_whole
  have F__law_tuple := fun_mk (st := s__law_tuple) l__law_tuple c__law_tuple k__law_tuple
  have F__law_sum := fun_mk (st := s__law_sum) l__law_sum c__law_sum k__law_sum
  have F__law_row_times := fun_mk (st := s__law_row_times) l__law_row_times c__law_row_times k__law_row_times
  have F__law_settled := fun_mk (st := s__law_settled) l__law_settled c__law_settled k__law_settled
  have F__law_draw_sum := fun_mk (st := s__law_draw_sum) l__law_draw_sum c__law_draw_sum k__law_draw_sum
  have F_law := fun_mk (st := s_law) l_law c_law k_law
  let T : Env K mg := { a_pair_of := _, fd_pair_of := _, F_pair_of := F_pair_of, g_pair_of := PySem.W.mg_of X G a_pair_of, b_pair_of := F_pair_of.binds (ps := ["a", "b"]) fun _ _ _ _ _ _ us hl => match us, hl with | [_, _], _ => rfl, a_letter := _, fd_letter := _, F_letter := F_letter, g_letter := PySem.W.mg_of X G a_letter, b_letter := F_letter.binds (ps := ["a", "b"]) fun _ _ _ _ _ _ us hl => match us, hl with | [_, _], _ => rfl, a_sum_plus := _, fd_sum_plus := _, F_sum_plus := F_sum_plus, g_sum_plus := PySem.W.mg_of X G a_sum_plus, b_sum_plus := F_sum_plus.binds (ps := ["one", "other"]) fun _ _ _ _ _ _ us hl => match us, hl with | [_, _], _ => rfl, a_gathered := _, fd_gathered := _, F_gathered := F_gathered, g_gathered := PySem.W.mg_of X G a_gathered, b_gathered := F_gathered.binds (ps := ["pairs"]) fun _ _ _ _ _ _ us hl => match us, hl with | [_], _ => rfl, a__law_flow := _, fd__law_flow := _, F__law_flow := F__law_flow, g__law_flow := PySem.W.mg_of X G a__law_flow, b__law_flow := F__law_flow.binds (ps := ["_law_script", "_law_many"]) fun _ _ _ _ _ _ us hl => match us, hl with | [_, _], _ => rfl, a__law_whole := _, fd__law_whole := _, F__law_whole := F__law_whole, g__law_whole := PySem.W.mg_of X G a__law_whole, b__law_whole := F__law_whole.binds (ps := ["_law_found"]) fun _ _ _ _ _ _ us hl => match us, hl with | [_], _ => rfl, a__law_tuple := _, fd__law_tuple := _, F__law_tuple := F__law_tuple, g__law_tuple := PySem.W.mg_of X G a__law_tuple, b__law_tuple := F__law_tuple.binds (ps := ["_law_found", "_law_many"]) fun _ _ _ _ _ _ us hl => match us, hl with | [_, _], _ => rfl, a__law_sum := _, fd__law_sum := _, F__law_sum := F__law_sum, g__law_sum := PySem.W.mg_of X G a__law_sum, b__law_sum := F__law_sum.binds (ps := ["_law_found"]) fun _ _ _ _ _ _ us hl => match us, hl with | [_], _ => rfl, a__law_row_times := _, fd__law_row_times := _, F__law_row_times := F__law_row_times, g__law_row_times := PySem.W.mg_of X G a__law_row_times, b__law_row_times := F__law_row_times.binds (ps := ["_law_one", "_law_other"]) fun _ _ _ _ _ _ us hl => match us, hl with | [_, _], _ => rfl, a__law_settled := _, fd__law_settled := _, F__law_settled := F__law_settled, g__law_settled := PySem.W.mg_of X G a__law_settled, b__law_settled := F__law_settled.binds (ps := ["_law_terms"]) fun _ _ _ _ _ _ us hl => match us, hl with | [_], _ => rfl, a__law_draw_sum := _, fd__law_draw_sum := _, F__law_draw_sum := F__law_draw_sum, g__law_draw_sum := PySem.W.mg_of X G a__law_draw_sum, b__law_draw_sum := F__law_draw_sum.binds (ps := ["_law_row", "_law_terms", "_law_marks"]) fun _ _ _ _ _ _ us hl => match us, hl with | [_, _, _], _ => rfl, a_law := _, fd_law := _, F_law := F_law, g_law := PySem.W.mg_of X G a_law, b_law := F_law.binds (ps := ["_law_script"]) fun _ _ _ _ _ _ us hl => match us, hl with | [_], _ => rfl, m_abs := PySem.W.mg_none_of X G z_abs, m_bool := PySem.W.mg_none_of X G z_bool, m_int := PySem.W.mg_none_of X G z_int, m_isinstance := PySem.W.mg_none_of X G z_isinstance, m_len := PySem.W.mg_none_of X G z_len, m_list := PySem.W.mg_none_of X G z_list, m_max := PySem.W.mg_none_of X G z_max, m_min := PySem.W.mg_none_of X G z_min, m_range := PySem.W.mg_none_of X G z_range, m_sorted := PySem.W.mg_none_of X G z_sorted, m_tuple := PySem.W.mg_none_of X G z_tuple }
  exact ⟨PySem.W.fnOf "law" "law" (defArgs s_law) (defBody s_law) (defScope s_law) .none kV_law dc_law pm_law an_law cd_law ct_law, fun s v => .of_eq rfl, fun base _ _ => ok_law T⟩
end
end My
open PySem PySem.W PyProof.Rows
set_option maxRecDepth 100000 in
set_option maxHeartbeats 0 in
theorem PySem.Challenge.cw_postmead_k04_letters_added_holds : PySem.Challenge.rw_postmead_k04_letters_added.Holds := by
  w_on; o_law; k_head; (case hw => w_witness2)
  k_fill
  refine L2.walk_of (l := PySem.Challenge.rw_postmead_k04_letters_added) (n := 63) (k := 4) (x := "_law_script") (CX := fun _ => L2.CX0) (sp := fun w => My.sp_law _) rfl (by decide) rfl ⟨rfl, by decide, by decide⟩ (fun w h Y => PySem.W.kIn_of Y) ?F (fun _ _ a ns hl _ hS => ⟨a, ns, rfl, hS, hl, fun _ => rfl⟩) (fun _ _ _ _ _ h => h)
  case F =>
    intro w mg fa h KX G hmg
    refine' My.all_mk KX G hmg ?a_pair_of ?l_pair_of ?c_pair_of ?k_pair_of ?a_letter ?l_letter ?c_letter ?k_letter ?a_sum_plus ?l_sum_plus ?c_sum_plus ?k_sum_plus ?a_gathered ?l_gathered ?c_gathered ?k_gathered ?a__law_flow ?l__law_flow ?c__law_flow ?k__law_flow ?a__law_whole ?l__law_whole ?c__law_whole ?k__law_whole ?a__law_tuple ?l__law_tuple ?c__law_tuple ?k__law_tuple ?a__law_sum ?l__law_sum ?c__law_sum ?k__law_sum ?a__law_row_times ?l__law_row_times ?c__law_row_times ?k__law_row_times ?a__law_settled ?l__law_settled ?c__law_settled ?k__law_settled ?a__law_draw_sum ?l__law_draw_sum ?c__law_draw_sum ?k__law_draw_sum ?a_law ?l_law ?c_law ?k_law ?z_abs ?z_bool ?z_int ?z_isinstance ?z_len ?z_list ?z_max ?z_min ?z_range ?z_sorted ?z_tuple
    (case a_pair_of => k_is)
    (case l_pair_of => k_is)
    (case c_pair_of => k_is)
    (case k_pair_of => k_is)
    (case a_letter => k_is)
    (case l_letter => k_is)
    (case c_letter => k_is)
    (case k_letter => k_is)
    (case a_sum_plus => k_is)
    (case l_sum_plus => k_is)
    (case c_sum_plus => k_is)
    (case k_sum_plus => k_is)
    (case a_gathered => k_is)
    (case l_gathered => k_is)
    (case c_gathered => k_is)
    (case k_gathered => k_is)
    (case a__law_flow => k_is)
    (case l__law_flow => k_is)
    (case c__law_flow => k_is)
    (case k__law_flow => k_is)
    (case a__law_whole => k_is)
    (case l__law_whole => k_is)
    (case c__law_whole => k_is)
    (case k__law_whole => k_is)
    (case a__law_tuple => k_is)
    (case l__law_tuple => k_is)
    (case c__law_tuple => k_is)
    (case k__law_tuple => k_is)
    (case a__law_sum => k_is)
    (case l__law_sum => k_is)
    (case c__law_sum => k_is)
    (case k__law_sum => k_is)
    (case a__law_row_times => k_is)
    (case l__law_row_times => k_is)
    (case c__law_row_times => k_is)
    (case k__law_row_times => k_is)
    (case a__law_settled => k_is)
    (case l__law_settled => k_is)
    (case c__law_settled => k_is)
    (case k__law_settled => k_is)
    (case a__law_draw_sum => k_is)
    (case l__law_draw_sum => k_is)
    (case c__law_draw_sum => k_is)
    (case k__law_draw_sum => k_is)
    (case a_law => k_is)
    (case l_law => k_is)
    (case c_law => k_is)
    (case k_law => k_is)
    (case z_abs => k_is)
    (case z_bool => k_is)
    (case z_int => k_is)
    (case z_isinstance => k_is)
    (case z_len => k_is)
    (case z_list => k_is)
    (case z_max => k_is)
    (case z_min => k_is)
    (case z_range => k_is)
    (case z_sorted => k_is)
    (case z_tuple => k_is)
#print axioms PySem.Challenge.cw_postmead_k04_letters_added_holds
