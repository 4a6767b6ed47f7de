import PyProof.Rows.All
import Wide.All
import OpenK.AllK
import Wide.FinOn
import HandS.ForMost
import HandS.ForExc
import HandS.Wide
import HandS.Gcd
import HandS.IsInst
import HandS.ExcIs
import HandS.Codes
import PySem.Challenge.RW_postmead_k02_fractions_reckoned
set_option Elab.async false
set_option linter.all false
set_option maxRecDepth 100000
set_option maxHeartbeats 4000000
namespace My
open PySem PySem.Spec PyProof.Rows L2
/-! ### readings: small steps -/
local macro_rules | `(tactic| walk_at "rd") => `(tactic| repeat (first
  | refine ⟨_, rfl, ?_⟩
  | refine ⟨_, _, rfl, rfl, ?_⟩
  | refine ⟨.inr ⟨by decide, by decide⟩, ?_⟩
  | refine ⟨by decide, ?_⟩))
theorem op_fdivX {X : Cx} : OpR X (binaryOp .FloorDiv) (rI (fun _ j => j ≠ 0 ∧ j.natAbs.log2 < 9000) fun i j => .int (i.fdiv j)) :=
  opI fun _ _ _ _ _ _ _ hc q => floordiv_int hc.1 q (.inl (PyProof.noPylong_of_log2 hc.2))
theorem op_mulU {X : Cx} : OpR X (binaryOp .Mult) (rI IntMulOk fun i j => .int (i * j)) := opI fun _ _ _ _ _ _ _ hc q => mul_int q hc
theorem mulL {i j : Int} (h0 : -(2 ^ 64) < i) (h1 : i < 2 ^ 64) : IntMulOk i j := CMul.ok (.inl ⟨h0, h1⟩)
theorem mulR {i j : Int} (h0 : -(2 ^ 64) < j) (h1 : j < 2 ^ 64) : IntMulOk i j := CMul.ok (.inr ⟨h0, h1⟩)
theorem nd {p : Prop} [Decidable p] (h : ¬ decide p = true) : ¬ p := fun hp => h (decide_eq_true hp)
theorem zc_of {cls : Value} {d : Option Addr} {C : Addr} {oe : Obj} (h : Zc cls d oe) (e : cls = .ref C ∧ d = none) : Zc (.ref C) none oe := by
  obtain ⟨e1, e2⟩ := e
  rw [← e1, ← e2]
  exact h
theorem same_new {H : Hp} {p : Addr} {o : HO} (h : H p = none) : Same H (upd H p o) := fun b x e => by
  rw [upd_ne (ne_of_none e h)]
  exact e
theorem same_put {H H' : Hp} {p : Addr} {o : HO} (s : Same H H') (h : H p = none) : Same H (upd H' p o) := fun b x e => by
  rw [upd_ne (ne_of_none e h)]
  exact s _ _ e
theorem log_small {n b : Nat} (h0 : 0 < b) (h : n < 2 ^ b) (h9 : b ≤ 9000) : n.log2 < 9000 := Nat.lt_of_lt_of_le (PySem.Flt.log2_lt_of h0 h) h9
theorem pss_guard {X : Cx} {b : List Stmt} {t : TS} {P : Prop} (h : P → PSs X b t) : PSs X b (fun D σ H => P ∧ t D σ H) :=
  ⟨fun pins s σ H D I q => (h q.1).run pins s σ H D I q.2⟩
def topS (i : Nat) : Stmt := PySem.Challenge.pw_postmead_k02_fractions_reckoned.main.body.getD i (.Pass ⟨0, 0, 0, 0⟩)
abbrev s_lowest : Stmt := topS 5
theorem sc_lowest : FnScope ["top", "bottom", "divisor"] ["top", "bottom"] (defScope s_lowest) := ⟨rfl, rfl, rfl, by decide +kernel, rfl, by decide +kernel, by decide +kernel⟩
abbrev s_plus : Stmt := topS 6
theorem sc_plus : FnScope ["one", "other"] ["one", "other"] (defScope s_plus) := ⟨rfl, rfl, rfl, by decide +kernel, rfl, by decide +kernel, by decide +kernel⟩
abbrev s_less : Stmt := topS 7
theorem sc_less : FnScope ["one", "other"] ["one", "other"] (defScope s_less) := ⟨rfl, rfl, rfl, by decide +kernel, rfl, by decide +kernel, by decide +kernel⟩
abbrev s_times : Stmt := topS 8
theorem sc_times : FnScope ["one", "other"] ["one", "other"] (defScope s_times) := ⟨rfl, rfl, rfl, by decide +kernel, rfl, by decide +kernel, by decide +kernel⟩
abbrev s_over : Stmt := topS 9
theorem sc_over : FnScope ["one", "other"] ["one", "other"] (defScope s_over) := ⟨rfl, rfl, rfl, by decide +kernel, rfl, by decide +kernel, by decide +kernel⟩
abbrev s_smaller : Stmt := topS 10
theorem sc_smaller : FnScope ["one", "other"] ["one", "other"] (defScope s_smaller) := ⟨rfl, rfl, rfl, by decide +kernel, rfl, by decide +kernel, by decide +kernel⟩
abbrev s__law_flow : Stmt := topS 12
theorem sc__law_flow : FnScope ["_law_script", "_law_many", "_law_great", "_law_row", "_law_k", "_law_cell", "_law_mixed"] ["_law_script", "_law_many"] (defScope s__law_flow) := ⟨rfl, rfl, rfl, by decide +kernel, rfl, by decide +kernel, by decide +kernel⟩
abbrev s__law_whole : Stmt := topS 13
theorem sc__law_whole : FnScope ["_law_found"] ["_law_found"] (defScope s__law_whole) := ⟨rfl, rfl, rfl, by decide +kernel, rfl, by decide +kernel, by decide +kernel⟩
abbrev s__law_low : Stmt := topS 14
theorem sc__law_low : FnScope ["_law_top", "_law_bottom", "_law_one", "_law_other"] ["_law_top", "_law_bottom"] (defScope s__law_low) := ⟨rfl, rfl, rfl, by decide +kernel, rfl, by decide +kernel, by decide +kernel⟩
abbrev s__law_part : Stmt := topS 15
theorem sc__law_part : FnScope ["_law_found"] ["_law_found"] (defScope s__law_part) := ⟨rfl, rfl, rfl, by decide +kernel, rfl, by decide +kernel, by decide +kernel⟩
abbrev s__law_refused : Stmt := topS 16
theorem sc__law_refused : FnScope ["_law_one", "_law_other", "e"] ["_law_one", "_law_other"] (defScope s__law_refused) := ⟨rfl, rfl, rfl, by decide +kernel, rfl, by decide +kernel, by decide +kernel⟩
abbrev s__law_is : Stmt := topS 17
theorem sc__law_is : FnScope ["_law_found", "_law_top", "_law_bottom"] ["_law_found", "_law_top", "_law_bottom"] (defScope s__law_is) := ⟨rfl, rfl, rfl, by decide +kernel, rfl, by decide +kernel, by decide +kernel⟩
abbrev s_law : Stmt := topS 18
theorem sc_law : FnScope ["_law_script", "_law_row", "_law_one", "_law_other", "_law_a", "_law_b", "_law_c", "_law_d", "_law_lower"] ["_law_script"] (defScope s_law) := ⟨rfl, rfl, rfl, by decide +kernel, rfl, by decide +kernel, by decide +kernel⟩
structure Env (K : PySem.W.Frag) (mg : Str → Option Value) where
  C_MeadError : Addr
  c_MeadError : mg "MeadError" = some (.ref C_MeadError)
  x_MeadError : PySem.W.excIn K C_MeadError [.type "ValueError", .type "Exception", .type "BaseException", .type "object"] "ValueError.__new__" = true
  k_MeadError : PySem.W.keepIn K (.ref C_MeadError) = true
  bs_MeadError : PySem.W.subIn K (.ref C_MeadError) (.type "BaseException") = some true
  ty_MeadError : PySem.W.typeIn K (.ref C_MeadError) = some (.type "type")
  e_MeadError : ExcC K C_MeadError
  C_NoFraction : Addr
  c_NoFraction : mg "NoFraction" = some (.ref C_NoFraction)
  x_NoFraction : PySem.W.excIn K C_NoFraction [.type "ValueError", .type "Exception", .type "BaseException", .type "object"] "ValueError.__new__" = true
  k_NoFraction : PySem.W.keepIn K (.ref C_NoFraction) = true
  bs_NoFraction : PySem.W.subIn K (.ref C_NoFraction) (.type "BaseException") = some true
  ty_NoFraction : PySem.W.typeIn K (.ref C_NoFraction) = some (.type "type")
  e_NoFraction : ExcC K C_NoFraction
  sub_NoFraction_MeadError : PySem.W.subIn K (.ref C_NoFraction) (.ref C_MeadError) = some true
  kit_NoFraction_NoFraction : PySem.W.kitOne K (.ref C_NoFraction) (.ref C_NoFraction) = some true
  a_lowest : Addr
  fd_lowest : FuncData
  F_lowest : Fun K "lowest" "lowest" s_lowest a_lowest fd_lowest
  g_lowest : mg "lowest" = some (.ref a_lowest)
  b_lowest : Binds K fd_lowest ["top", "bottom"] []
  a_plus : Addr
  fd_plus : FuncData
  F_plus : Fun K "plus" "plus" s_plus a_plus fd_plus
  g_plus : mg "plus" = some (.ref a_plus)
  b_plus : Binds K fd_plus ["one", "other"] []
  a_less : Addr
  fd_less : FuncData
  F_less : Fun K "less" "less" s_less a_less fd_less
  g_less : mg "less" = some (.ref a_less)
  b_less : Binds K fd_less ["one", "other"] []
  a_times : Addr
  fd_times : FuncData
  F_times : Fun K "times" "times" s_times a_times fd_times
  g_times : mg "times" = some (.ref a_times)
  b_times : Binds K fd_times ["one", "other"] []
  a_over : Addr
  fd_over : FuncData
  F_over : Fun K "over" "over" s_over a_over fd_over
  g_over : mg "over" = some (.ref a_over)
  b_over : Binds K fd_over ["one", "other"] []
  a_smaller : Addr
  fd_smaller : FuncData
  F_smaller : Fun K "smaller" "smaller" s_smaller a_smaller fd_smaller
  g_smaller : mg "smaller" = some (.ref a_smaller)
  b_smaller : Binds K fd_smaller ["one", "other"] []
  a__law_flow : Addr
  fd__law_flow : FuncData
  F__law_flow : Fun K "_law_flow" "_law_flow" s__law_flow a__law_flow fd__law_flow
  g__law_flow : mg "_law_flow" = some (.ref a__law_flow)
  b__law_flow : Binds K fd__law_flow ["_law_script", "_law_many"] []
  a__law_whole : Addr
  fd__law_whole : FuncData
  F__law_whole : Fun K "_law_whole" "_law_whole" s__law_whole a__law_whole fd__law_whole
  g__law_whole : mg "_law_whole" = some (.ref a__law_whole)
  b__law_whole : Binds K fd__law_whole ["_law_found"] []
  a__law_low : Addr
  fd__law_low : FuncData
  F__law_low : Fun K "_law_low" "_law_low" s__law_low a__law_low fd__law_low
  g__law_low : mg "_law_low" = some (.ref a__law_low)
  b__law_low : Binds K fd__law_low ["_law_top", "_law_bottom"] []
  a__law_part : Addr
  fd__law_part : FuncData
  F__law_part : Fun K "_law_part" "_law_part" s__law_part a__law_part fd__law_part
  g__law_part : mg "_law_part" = some (.ref a__law_part)
  b__law_part : Binds K fd__law_part ["_law_found"] []
  a__law_refused : Addr
  fd__law_refused : FuncData
  F__law_refused : Fun K "_law_refused" "_law_refused" s__law_refused a__law_refused fd__law_refused
  g__law_refused : mg "_law_refused" = some (.ref a__law_refused)
  b__law_refused : Binds K fd__law_refused ["_law_one", "_law_other"] []
  a__law_is : Addr
  fd__law_is : FuncData
  F__law_is : Fun K "_law_is" "_law_is" s__law_is a__law_is fd__law_is
  g__law_is : mg "_law_is" = some (.ref a__law_is)
  b__law_is : Binds K fd__law_is ["_law_found", "_law_top", "_law_bottom"] []
  a_law : Addr
  fd_law : FuncData
  F_law : Fun K "law" "law" s_law a_law fd_law
  g_law : mg "law" = some (.ref a_law)
  b_law : Binds K fd_law ["_law_script"] []
  m_abs : mg "abs" = none
  m_bool : mg "bool" = none
  m_int : mg "int" = none
  m_isinstance : mg "isinstance" = none
  m_len : mg "len" = none
  m_range : mg "range" = none
  m_tuple : mg "tuple" = none
  m_gcd : mg "gcd" = some (.builtin "math.gcd")
section
variable {P : Program} {w : World} {K : PySem.W.Frag} {mg : Str → Option Value} {base : Heap}

/-! ### the row of numbers that the script makes -/
def rowOk (rs : List Int) : Prop := ∀ v ∈ rs, 0 ≤ v ∧ v < 1000000
theorem rowOk_nil : rowOk [] := fun _ h => by cases h
theorem rowOk_add {rs : List Int} {v : Int} (h : rowOk rs) (h0 : 0 ≤ v) (h1 : v < 1000000) : rowOk (rs ++ [v]) := fun x hx => by
  rcases List.mem_append.mp hx with q | q
  · exact h x q
  · rw [List.mem_singleton.mp q]
    exact ⟨h0, h1⟩
def sp_flow (K : PySem.W.Frag) : Sp := fun vs H Q _ => ∃ (a : Addr) (ns : List Int) (m : Int), vs = [.ref a, .int m] ∧ SqL K H a (ns.map V.int) ∧ ns.length ≤ 63 ∧ 0 ≤ m ∧ m ≤ 1000 ∧
  ∀ H' p (rs : List Int), Same H H' → H p = none → rs.length = m.toNat → rowOk rs → H' p = some (.lst (rs.map V.int)) → Q (.ref p) H'
def flowInv (a : Addr) (m : Int) (p : Addr) (H : Hp) : Nat → L2.St → Hp → Prop := fun i σ H' => ∃ (g : Int) (rs : List Int) (k c x : Option V),
  σ = [some (.ref a), some (.int m), some (.int g), some (.ref p), k, c, x] ∧ Same H H' ∧ H' p = some (.lst (rs.map V.int)) ∧ rs.length = i ∧ rowOk rs
theorem mod_in (x : Int) : 0 ≤ x % 1000000 ∧ x % 1000000 < 1000000 := ⟨Int.emod_nonneg _ (by decide), Int.emod_lt_of_pos _ (by decide)⟩
theorem flow_turn {a p : Addr} {m g z : Int} {H H' : Hp} {i : Nat} {rs : List Int} {k c x : Option V} (hs : Same H H') (hp : H p = none) (hrl : rs.length = i) (hro : rowOk rs) :
    flowInv a m p H (i + 1) [some (.ref a), some (.int m), some (.int g), some (.ref p), k, c, x] (upd H' p (.lst (rs.map V.int ++ [V.int (z % 1000000)]))) := by
  refine ⟨g, rs ++ [z % 1000000], k, c, x, rfl, same_put hs hp, ?_, by rw [List.length_append, hrl]; rfl, rowOk_add hro (mod_in z).1 (mod_in z).2⟩
  rw [upd_same, List.map_append]; rfl
theorem mod_at {ns : List Int} (h : 0 < ns.length) (k : Nat) : ∃ z, atI (ns.map V.int) ((k : Int) % (ns.length : Int)) = some (.int z) := by
  have hk : k % ns.length < ns.length := Nat.mod_lt _ h
  refine ⟨ns[k % ns.length], ?_⟩
  rw [← Int.natCast_emod]
  refine atI_nat ?_
  rw [List.getElem?_map, List.getElem?_eq_getElem hk]
  rfl
theorem ok__law_flow (T : Env K mg) : FnOk P w K mg base CX0 1 T.a__law_flow T.fd__law_flow ["_law_script", "_law_many"] (sp_flow K) := by
  refine T.F__law_flow.ok sc__law_flow (fun vs H Q E h => ?_) (fun cdv A outer s H vs Q E hr h => ?_)
  · obtain ⟨a, ns, m, rfl, _⟩ := h
    rfl
  · obtain ⟨a, ns, m, rfl, hS, hl, hm0, hm1, q⟩ := h
    refine ⟨_, (pss_cons (ps_set (i := 2) sc__law_flow.nd rfl (.inl rfl) pe_int)
 (C8.pss_cut (ps_if (PW.pt (pw_and (pt_cmpR op_gt (pe_callB call_len_seq (by rfl) T.m_len (by decide +kernel) (pa_cons (pv 0) pa_nil)) pe_int (nomark _)) (pw_and1 (pt_cmpR op_ge (pe_callB call_abs (by rfl) T.m_abs (by decide +kernel) (pa_cons (pe_ix ix_list (pv 0) pe_int (fun _ _ => rfl)) pa_nil)) (pe_op op_pow pe_int pe_int) (nomark _)))))
 (pss_one (ps_set (i := 2) sc__law_flow.nd rfl (.inl rfl) (pe_op op_sub (pe_callB call_abs (by rfl) T.m_abs (by decide +kernel) (pa_cons (pe_ix ix_list (pv 0) pe_int (fun _ _ => rfl)) pa_nil)) (pe_op op_pow pe_int pe_int))))
 pss_nil)
 (pss_cons (ps_set (i := 3) sc__law_flow.nd rfl (.inl rfl) (pe_lst pa_nil))
 (pss_cons (ps_for PassesOwn.never rfl (pi_range1 (by rfl) T.m_range (pa_cons (pv 1) pa_nil)) (pg_name (i := 4) sc__law_flow.nd rfl (.inl rfl))
 (pss_one (ps_if (pt_cmpR op_gt (pv 2) pe_int (nomark _))
 (pss_cons (ps_expr (pe_bm PySem.F.plainAttrs_list PySem.F.slot_list_append PySem.F.type_list_append mt_append (pv 3) (pa_cons (pe_op op_mod (pv 2) pe_int) pa_nil)))
 (pss_one (ps_set (i := 2) sc__law_flow.nd rfl (.inl rfl) (pe_op op_fdiv (pv 2) pe_int))))
 (pss_cons (ps_set (i := 5) sc__law_flow.nd rfl (.inl rfl) (pe_op op_add (pv 4) pe_int))
 (C8.pss_cut (ps_if (pt_cmpR op_gt (pe_callB call_len_seq (by rfl) T.m_len (by decide +kernel) (pa_cons (pv 0) pa_nil)) pe_int (nomark _))
 (pss_one (ps_set (i := 5) sc__law_flow.nd rfl (.inl rfl) (pe_ix ix_list (pv 0) (pe_op op_mod (pv 4) (pe_callB call_len_seq (by rfl) T.m_len (by decide +kernel) (pa_cons (pv 0) pa_nil))) (fun _ _ => rfl))))
 pss_nil)
 (pss_cons (ps_set (i := 6) sc__law_flow.nd rfl (.inl rfl) (pe_op op_mod (pe_op op_add (pe_op op_add (pe_op op_mulU (pv 5) pe_int) (pe_op op_mulU (pv 4) pe_int)) pe_int) pe_int))
 (pss_cons (ps_set (i := 6) sc__law_flow.nd rfl (.inl rfl) (pe_op op_mod (pe_op op_add (pe_op op_add (pe_op op_mulU (pv 6) pe_int) (pe_op op_mulU (pv 4) pe_int)) (pe_callB call_len_seq (by rfl) T.m_len (by decide +kernel) (pa_cons (pv 0) pa_nil))) pe_int))
 (pss_one (ps_expr (pe_bm PySem.F.plainAttrs_list PySem.F.slot_list_append PySem.F.type_list_append mt_append (pv 3) (pa_cons (pe_op op_mod (pe_op op_fdiv (pv 6) pe_int) pe_int) pa_nil)))))))))))
 (pss_one (ps_ret (pv 3))))))), ?_⟩
    have hlen : (ns.map V.int).length = ns.length := List.length_map _
    refine ⟨fun σ' H' => ∃ g : Int, σ' = [some (.ref a), some (.int m), some (.int g), none, none, none, none] ∧ H = H', ?_, ?_⟩
    · refine ⟨_, rfl, _, _, rfl, .inl hS, _, _, rfl, rfl, _, rfl, ite2 (fun hd => ?_) (fun _ => ⟨_, rfl, rfl⟩)⟩
      have h0 : 0 < ns.length := by
        have := of_decide_eq_true hd
        rw [hlen] at this
        omega
      obtain ⟨z, hz⟩ := mod_at h0 0
      have hz0 : atI (ns.map V.int) 0 = some (.int z) := by
        have e : ((0 : Nat) : Int) % (ns.length : Int) = 0 := by simp
        rw [e] at hz
        exact hz
      refine ⟨_, rfl, a, _, _, _, rfl, rfl, hS, hz0, _, rfl, _, _, rfl, rfl, ⟨by decide, by decide, by decide⟩, _, _, rfl, rfl, _, rfl, ?_⟩
      refine ite2 (fun _ => ?_) (fun _ => ⟨_, rfl, rfl⟩)
      exact ⟨_, rfl, a, _, _, _, rfl, rfl, hS, hz0, _, rfl, _, _, rfl, rfl, ⟨by decide, by decide, by decide⟩, _, _, rfl, rfl, _, rfl, rfl⟩
    · rintro _ _ ⟨g, rfl, rfl⟩
      refine ⟨Nat.zero_le _, fun p hp => ?_⟩
      refine ⟨_, rfl, m, rfl, by omega, by omega, for_range (lo := 0) (n := m.toNat) (flowInv a m p H) ⟨g, [], none, none, none, rfl, same_new hp, upd_same, rfl, rowOk_nil⟩ ?_ ?_⟩
      · rintro i σ H' hi ⟨g, rs, k, c, x, rfl, hs, hpl, hrl, hro⟩
        have hA := hs.seq hS
        have hsz : (rs.map V.int).length < sizeLine := by rw [List.length_map]; exact small1000 (by omega)
        refine ⟨_, rfl, _, _, rfl, rfl, _, rfl, ite2 (fun _ => ?_) (fun _ => ?_)⟩
        · refine ⟨_, rfl, .inl ⟨rfl, _, .inl (.inl hpl)⟩, _, rfl, _, _, rfl, rfl, (by show (0 : Int) < _; decide), p, _, _, rfl, rfl, hpl, hsz, ?_⟩
          refine ⟨_, rfl, _, _, rfl, rfl, ⟨by decide, by decide⟩, ?_⟩
          exact flow_turn hs hp hrl hro
        · refine ⟨_, rfl, _, _, rfl, rfl, ?_⟩
          refine ⟨fun σ' H2 => ∃ cell : Int, σ' = [some (.ref a), some (.int m), some (.int g), some (.ref p), some (.int (0 + (i : Int))), some (.int cell), x] ∧ H' = H2, ?_, ?_⟩
          · refine ⟨_, rfl, _, _, rfl, .inl hA, _, _, rfl, rfl, _, rfl, ite2 (fun hd => ?_) (fun _ => ⟨_, rfl, rfl⟩)⟩
            have h0 : 0 < ns.length := by
              have := of_decide_eq_true hd
              rw [hlen] at this
              omega
            obtain ⟨z, hz⟩ := mod_at h0 i
            refine ⟨_, rfl, _, rfl, _, rfl, _, _, rfl, .inl hA, _, _, rfl, rfl, (by rw [hlen]; omega), a, _, _, .int z, rfl, rfl, hA, ?_, ⟨z, rfl, rfl⟩⟩
            rw [hlen, Int.zero_add]
            exact hz
          · rintro _ _ ⟨cell, rfl, rfl⟩
            refine ⟨_, rfl, _, _, rfl, rfl, mulR (by decide) (by decide), _, rfl, _, _, rfl, rfl, mulR (by decide) (by decide), _, _, rfl, rfl, _, _, rfl, rfl, _, _, rfl, rfl, (by show (0 : Int) < _; decide), ?_⟩
            refine ⟨_, rfl, _, _, rfl, rfl, mulR (by decide) (by decide), _, rfl, _, _, rfl, rfl, mulR (by decide) (by decide), _, _, rfl, rfl, _, rfl, _, _, rfl, .inl hA, _, _, rfl, rfl, _, _, rfl, rfl, (by show (0 : Int) < _; decide), ?_⟩
            refine ⟨_, rfl, .inl ⟨rfl, _, .inl (.inl hpl)⟩, _, rfl, _, _, rfl, rfl, ⟨by decide, by decide⟩, _, _, rfl, rfl, (by show (0 : Int) < _; decide), p, _, _, rfl, rfl, hpl, hsz, ?_⟩
            exact flow_turn hs hp hrl hro
      · rintro σ H' ⟨g, rs, k, c, x, rfl, hs, hpl, hrl, hro⟩
        exact ⟨_, rfl, q H' p rs hs hp hrl hro hpl⟩

/-! ### fractions in lowest terms: the mathematics -/
def lowI (t b : Int) : Int × Int := if b < 0 then ((-t) / ((Nat.gcd t.natAbs b.natAbs : Nat) : Int), (-b) / ((Nat.gcd t.natAbs b.natAbs : Nat) : Int)) else (t / ((Nat.gcd t.natAbs b.natAbs : Nat) : Int), b / ((Nat.gcd t.natAbs b.natAbs : Nat) : Int))
/-- lowest terms: x over y -/
structure Low (x y : Int) : Prop where
  pos : 0 < y
  one : Nat.gcd x.natAbs y.natAbs = 1
theorem lowI_pos {t b : Int} (h : 0 < b) : Low (lowI t b).1 (lowI t b).2 ∧ (lowI t b).1 * b = (lowI t b).2 * t ∧ (lowI t b).2 ≤ b ∧ (lowI t b).1.natAbs ≤ t.natAbs := by
  have hg : 0 < Nat.gcd t.natAbs b.natAbs := Nat.gcd_pos_of_pos_right _ (by omega)
  obtain ⟨x, hx⟩ := Nat.gcd_dvd_left t.natAbs b.natAbs
  obtain ⟨y, hy⟩ := Nat.gcd_dvd_right t.natAbs b.natAbs
  have e : lowI t b = (t / ((Nat.gcd t.natAbs b.natAbs : Nat) : Int), b / ((Nat.gcd t.natAbs b.natAbs : Nat) : Int)) := by
    unfold lowI
    rw [if_neg (by omega)]
  rw [e]
  generalize hgd : Nat.gcd t.natAbs b.natAbs = g at *
  have hg' : (g : Int) ≠ 0 := by omega
  have hb : b = (g : Int) * (y : Int) := by
    have : (b.natAbs : Int) = ((g * y : Nat) : Int) := by rw [← hy]
    rw [Int.natCast_mul] at this
    omega
  have eb : b / (g : Int) = (y : Int) := by rw [hb]; exact Int.mul_ediv_cancel_left _ hg'
  have hy0 : 0 < y := by
    rcases Nat.eq_zero_or_pos y with q | q
    · rw [q, Int.ofNat_zero, Int.mul_zero] at hb; omega
    · exact q
  have ht : t = (g : Int) * (if t < 0 then -(x : Int) else (x : Int)) := by
    have : (t.natAbs : Int) = ((g * x : Nat) : Int) := by rw [← hx]
    rw [Int.natCast_mul] at this
    split
    · rw [Int.mul_neg]; omega
    · omega
  have et : t / (g : Int) = (if t < 0 then -(x : Int) else (x : Int)) := by
    conv => lhs; rw [ht]
    exact Int.mul_ediv_cancel_left _ hg'
  have hcop : Nat.gcd x y = 1 := by
    have h1 : Nat.gcd (g * x) (g * y) = g * Nat.gcd x y := Nat.gcd_mul_left g x y
    rw [← hx, ← hy, hgd] at h1
    have h2 : g * 1 = g * Nat.gcd x y := by rw [Nat.mul_one]; exact h1
    exact (Nat.eq_of_mul_eq_mul_left hg h2).symm
  rw [eb, et]
  have hna : (if t < 0 then -(x : Int) else (x : Int)).natAbs = x := by split <;> omega
  refine ⟨⟨by omega, ?_⟩, ?_, ?_, ?_⟩
  · rw [hna, Int.natAbs_natCast]; exact hcop
  · have := ht
    generalize (if t < 0 then -(x : Int) else (x : Int)) = x' at *
    show x' * b = (y : Int) * t
    rw [hb, ht, Int.mul_left_comm x', Int.mul_left_comm (y : Int), Int.mul_comm x']
  · rw [hb]
    have : (1 : Int) * (y : Int) ≤ (g : Int) * (y : Int) := Int.mul_le_mul_of_nonneg_right (by omega) (by omega)
    omega
  · show (if t < 0 then -(x : Int) else (x : Int)).natAbs ≤ t.natAbs
    rw [hna, hx]
    exact Nat.le_mul_of_pos_left x hg
theorem lowI_neg {t b : Int} (h : b < 0) : lowI t b = lowI (-t) (-b) := by
  unfold lowI
  rw [if_pos h, if_neg (show ¬ (-b < 0) by omega), Int.natAbs_neg, Int.natAbs_neg]
theorem lowI_ok {t b : Int} (h : b ≠ 0) : Low (lowI t b).1 (lowI t b).2 ∧ (lowI t b).1 * b = (lowI t b).2 * t ∧ (lowI t b).2.natAbs ≤ b.natAbs ∧ (lowI t b).1.natAbs ≤ t.natAbs := by
  by_cases hb : 0 < b
  · obtain ⟨h1, h2, h3, h4⟩ := lowI_pos (t := t) hb
    exact ⟨h1, h2, by have := h1.pos; omega, h4⟩
  · have hn : b < 0 := by omega
    obtain ⟨h1, h2, h3, h4⟩ := lowI_pos (t := -t) (b := -b) (by omega)
    rw [← lowI_neg hn] at h1 h2 h3 h4
    refine ⟨h1, ?_, by have := h1.pos; omega, by rw [Int.natAbs_neg] at h4; exact h4⟩
    rw [Int.mul_neg, Int.mul_neg] at h2
    omega
theorem lowI_self {x y : Int} (h : Low x y) : lowI x y = (x, y) := by
  unfold lowI
  have := h.pos
  rw [if_neg (by omega), h.one]
  simp
/-- two in lowest terms that are worth the same are the same -/
theorem low_same {x y u v : Int} (h : Low x y) (k : Low u v) (e : x * v = u * y) : x = u ∧ y = v := by
  have hy := h.pos
  have hv := k.pos
  have e' : x.natAbs * v.natAbs = u.natAbs * y.natAbs := by rw [← Int.natAbs_mul, ← Int.natAbs_mul, e]
  have d1 : y.natAbs ∣ v.natAbs := by
    have : y.natAbs ∣ x.natAbs * v.natAbs := by rw [e']; exact Nat.dvd_mul_left _ _
    exact (Nat.Coprime.symm (show Nat.Coprime x.natAbs y.natAbs from h.one)).dvd_of_dvd_mul_left this
  have d2 : v.natAbs ∣ y.natAbs := by
    have : v.natAbs ∣ u.natAbs * y.natAbs := by rw [← e']; exact Nat.dvd_mul_left _ _
    exact (Nat.Coprime.symm (show Nat.Coprime u.natAbs v.natAbs from k.one)).dvd_of_dvd_mul_left this
  have ey : y.natAbs = v.natAbs := Nat.dvd_antisymm d1 d2
  have eyv : y = v := by omega
  subst eyv
  exact ⟨Int.eq_of_mul_eq_mul_right (by omega) e, rfl⟩
theorem fdiv_lowN {t g : Int} (hg : 0 < g) : t.fdiv (-g) = (-t) / g := by
  have e : t.fdiv (-g) = (-(-t)).fdiv (-g) := by rw [Int.neg_neg]
  rw [e, Int.neg_fdiv_neg, Int.fdiv_eq_ediv_of_nonneg _ (by omega)]
theorem fdiv_lowP {t g : Int} (hg : 0 < g) : t.fdiv g = t / g := Int.fdiv_eq_ediv_of_nonneg _ (by omega)
theorem gcd_log {t b : Int} (h : b ≠ 0) (hb : b.natAbs.log2 < 9000) : ((Nat.gcd t.natAbs b.natAbs : Nat) : Int).natAbs.log2 < 9000 := by
  rw [Int.natAbs_natCast]
  have h1 : Nat.gcd t.natAbs b.natAbs ≤ b.natAbs := Nat.gcd_le_right _ (by omega)
  have h2 : b.natAbs < 2 ^ (b.natAbs.log2 + 1) := Nat.lt_log2_self
  have h3 : (Nat.gcd t.natAbs b.natAbs).log2 < b.natAbs.log2 + 1 := PySem.Flt.log2_lt_of (by omega) (Nat.lt_of_le_of_lt h1 h2)
  omega

/-! ### whole, low, part -/
def sp_whole : Sp := fun vs H Q _ => ∃ n : Int, vs = [.int n] ∧ Q (.bl true) H
theorem ok__law_whole (T : Env K mg) : FnOk P w K mg base CX0 1 T.a__law_whole T.fd__law_whole ["_law_found"] sp_whole := by
  refine T.F__law_whole.ok sc__law_whole (fun vs H Q E h => ?_) (fun cdv A outer s H vs Q E hr h => ?_)
  · obtain ⟨n, rfl, _⟩ := h
    rfl
  · obtain ⟨n, rfl, q⟩ := h
    refine ⟨_, (pss_one (ps_ret (pe_and (pe_callB call_isi (by rfl) T.m_isinstance (by decide +kernel) (pa_cons (pv 0) (pa_cons (pe_bltn (v := .ty "int") (u := .type "int") (by rfl) T.m_int (by decide +kernel) rfl) pa_nil))) (pe_one (pe_not (pe_callB call_isi (by rfl) T.m_isinstance (by decide +kernel) (pa_cons (pv 0) (pa_cons (pe_bltn (v := .ty "bool") (u := .type "bool") (by rfl) T.m_bool (by decide +kernel) rfl) pa_nil)))))))), ?_⟩
    refine ⟨_, rfl, _, _, _, _, _, rfl, .ty _, .base (.int _), kit_ty (by decide +kernel), true, rfl, iteT ?_⟩
    exact ⟨_, rfl, _, _, _, _, _, rfl, .ty _, .base (.int _), kit_ty (by decide +kernel), false, rfl, q⟩
def sp_low : Sp := fun vs H Q _ => ∃ t b : Int, vs = [.int t, .int b] ∧ b ≠ 0 ∧ b.natAbs.log2 < 9000 ∧
  ∀ p, H p = none → Q (.ref p) (upd H p (.tup [.int (lowI t b).1, .int (lowI t b).2]))
theorem gcd_turn {a b : Nat} (h : 0 < b) : Nat.gcd b (a % b) = Nat.gcd a b := by
  rw [Nat.gcd_comm a b, Nat.gcd_rec b a, Nat.gcd_comm]
theorem ok__law_low (T : Env K mg) : FnOk P w K mg base CX0 1 T.a__law_low T.fd__law_low ["_law_top", "_law_bottom"] sp_low := by
  refine T.F__law_low.ok sc__law_low (fun vs H Q E h => ?_) (fun cdv A outer s H vs Q E hr h => ?_)
  · obtain ⟨t, b, rfl, _⟩ := h
    rfl
  · obtain ⟨t, b, rfl, hb, hlog, q⟩ := h
    refine ⟨_, (pss_cons (ps_set (i := 2) sc__law_low.nd rfl (.inl rfl) (pe_callB call_abs (by rfl) T.m_abs (by decide +kernel) (pa_cons (pv 0) pa_nil)))
 (pss_cons (ps_set (i := 3) sc__law_low.nd rfl (.inl rfl) (pe_callB call_abs (by rfl) T.m_abs (by decide +kernel) (pa_cons (pv 1) pa_nil)))
 (pss_cons (ps_while PassesOwn.never (pt_cmpR op_gt (pv 3) pe_int (nomark _))
 (pss_one (ps_par (i := 2) (j := 3) (by rfl) sc__law_low.nd rfl rfl (by decide) rfl rfl (pa_cons (pv 3) (pa_cons (pe_op op_mod (pv 2) (pv 3)) pa_nil)) (by rfl))))
 (C8.pss_cut (ps_if (pt_cmpR op_lt (pv 1) pe_int (nomark _))
 (pss_cons (ps_set (i := 0) sc__law_low.nd rfl (.inl rfl) (pe_un un_neg (pv 0)))
 (pss_one (ps_set (i := 1) sc__law_low.nd rfl (.inl rfl) (pe_un un_neg (pv 1)))))
 pss_nil)
 (pss_one (ps_ret (pe_tup (pa_cons (pe_op op_fdivX (pv 0) (pv 2)) (pa_cons (pe_op op_fdivX (pv 1) (pv 2)) pa_nil))))))))), ?_⟩
    refine ⟨_, rfl, _, rfl, _, rfl, _, rfl, ?_⟩
    have ab : ∀ z : Int, (if z < 0 then -z else z) = (z.natAbs : Int) := fun z => by split <;> omega
    rw [ab, ab]
    refine while_by (fun σ H' => H = H' ∧ ∃ x y : Nat, σ = [some (.int t), some (.int b), some (.int (x : Int)), some (.int (y : Int))] ∧ Nat.gcd x y = Nat.gcd t.natAbs b.natAbs)
      (fun σ _ => match σ with | [_, _, _, some (.int y)] => y.toNat | _ => 0) ⟨rfl, _, _, rfl, rfl⟩ ?_ ?_
    · rintro _ _ ⟨rfl, x, y, rfl, hg⟩
      refine ⟨_, rfl, _, _, rfl, rfl, _, rfl, ite2 (fun hd => ?_) (fun hd => ?_)⟩
      · have hy : 0 < y := by have := of_decide_eq_true hd; omega
        refine ⟨_, rfl, _, rfl, _, rfl, _, _, rfl, rfl, by omega, _, _, rfl, ⟨rfl, y, x % y, ?_, ?_⟩, ?_⟩
        · rw [Int.natCast_emod]; rfl
        · rw [gcd_turn hy]; exact hg
        · show ((x : Int) % (y : Int)).toNat < ((y : Int)).toNat
          have : x % y < y := Nat.mod_lt _ hy
          rw [← Int.natCast_emod]
          omega
      · have hy : y = 0 := by have h1 : ¬ ((0 : Int) < (y : Int)) := nd hd; omega
        subst hy
        rw [Nat.gcd_zero_right] at hg
        have hgp : 0 < Nat.gcd t.natAbs b.natAbs := Nat.gcd_pos_of_pos_right _ (by omega)
        have hgl := gcd_log (t := t) hb hlog
        rw [hg]
        generalize hG : Nat.gcd t.natAbs b.natAbs = g at *
        refine ⟨fun σ' H2 => H = H2 ∧ ∃ y0 : Option V, ((b < 0 ∧ σ' = [some (.int (-t)), some (.int (-b)), some (.int (g : Int)), y0]) ∨ (¬ b < 0 ∧ σ' = [some (.int t), some (.int b), some (.int (g : Int)), y0])), ?_, ?_⟩
        · refine ⟨_, rfl, _, _, rfl, rfl, _, rfl, ite2 (fun hd => ?_) (fun hd => ?_)⟩
          · exact ⟨_, rfl, _, rfl, _, rfl, _, rfl, rfl, _, .inl ⟨of_decide_eq_true hd, rfl⟩⟩
          · exact ⟨rfl, _, .inr ⟨nd hd, rfl⟩⟩
        · rintro σ' H2 ⟨rfl, y0, ⟨hn, rfl⟩ | ⟨hn, rfl⟩⟩
          · refine ⟨_, rfl, _, rfl, _, _, rfl, rfl, ⟨by omega, hgl⟩, _, rfl, _, rfl, _, _, rfl, rfl, ⟨by omega, hgl⟩, (by show 2 ≤ sizeLine; decide), fun p hp => ?_⟩
            have := q p hp
            unfold lowI at this
            rw [if_pos hn, hG] at this
            show Q (.ref p) (upd H p (.tup [.int ((-t).fdiv (g : Int)), .int ((-b).fdiv (g : Int))]))
            rw [fdiv_lowP (by omega), fdiv_lowP (by omega)]
            exact this
          · refine ⟨_, rfl, _, rfl, _, _, rfl, rfl, ⟨by omega, hgl⟩, _, rfl, _, rfl, _, _, rfl, rfl, ⟨by omega, hgl⟩, (by show 2 ≤ sizeLine; decide), fun p hp => ?_⟩
            have := q p hp
            unfold lowI at this
            rw [if_neg hn, hG] at this
            show Q (.ref p) (upd H p (.tup [.int (t.fdiv (g : Int)), .int (b.fdiv (g : Int))]))
            rw [fdiv_lowP (by omega), fdiv_lowP (by omega)]
            exact this
    · rintro σ H' Q1 Q2 hQ ⟨v, e, i, j, e1, e2, k, e3, q1⟩
      exact ⟨v, e, i, j, e1, e2, k, e3, hQ _ _ q1⟩
/-- what is told of a pair of ints: whether it is a fraction in lowest terms -/
def sp_part (K : PySem.W.Frag) : Sp := fun vs H Q _ => ∃ (p : Addr) (x y : Int), vs = [.ref p] ∧ H p = some (.tup [.int x, .int y]) ∧ Low x y ∧ y.natAbs.log2 < 9000 ∧ ∀ H', Same H H' → Q (.bl true) H'
theorem ok__law_part (T : Env K mg) : FnOk P w K mg base CX0 2 T.a__law_part T.fd__law_part ["_law_found"] (sp_part K) := by
  refine T.F__law_part.ok sc__law_part (fun vs H Q E h => ?_) (fun cdv A outer s H vs Q E hr h => ?_)
  · obtain ⟨p, x, y, rfl, _⟩ := h
    rfl
  · obtain ⟨p, x, y, rfl, hp, hL, hlog, q⟩ := h
    refine ⟨_, (pss_cons (ps_if (PW.pt (pw_or (pt_not (pt_val (pe_callB call_isi (by rfl) T.m_isinstance (by decide +kernel) (pa_cons (pv 0) (pa_cons (pe_bltn (v := .ty "tuple") (u := .type "tuple") (by rfl) T.m_tuple (by decide +kernel) rfl) pa_nil))))) (pw_or1 (pt_cmpR op_ne (pe_callB call_len_seq (by rfl) T.m_len (by decide +kernel) (pa_cons (pv 0) pa_nil)) pe_int (nomark _)))))
 (pss_one (ps_ret pe_bl))
 pss_nil)
 (pss_cons (ps_if (PW.pt (pw_or (pt_not (pt_val (pe_call (ok__law_whole T) (hr.mono (by decide)) (by rfl) T.g__law_whole T.F__law_whole.kp T.b__law_whole .nil pass0 (pa_cons (pe_ix ix_tup (pv 0) pe_int (fun _ _ => rfl)) pa_nil)))) (pw_or (pt_not (pt_val (pe_call (ok__law_whole T) (hr.mono (by decide)) (by rfl) T.g__law_whole T.F__law_whole.kp T.b__law_whole .nil pass0 (pa_cons (pe_ix ix_tup (pv 0) pe_int (fun _ _ => rfl)) pa_nil)))) (pw_or1 (pt_cmpR op_le (pe_ix ix_tup (pv 0) pe_int (fun _ _ => rfl)) pe_int (nomark _))))))
 (pss_one (ps_ret pe_bl))
 pss_nil)
 (pss_one (ps_ret (pe_cmpR (op_eqD hr.units) (pe_call (ok__law_low T) (hr.mono (by decide)) (by rfl) T.g__law_low T.F__law_low.kp T.b__law_low .nil pass0 (pa_cons (pe_ix ix_tup (pv 0) pe_int (fun _ _ => rfl)) (pa_cons (pe_ix ix_tup (pv 0) pe_int (fun _ _ => rfl)) pa_nil))) (pv 0) (nomark _)))))), ?_⟩
    have hS : SqT K H p [.int x, .int y] := .inl (.inl hp)
    have hpos := hL.pos
    refine ⟨_, rfl, _, _, _, _, _, rfl, .ty _, .base (.tup hp), kit_ty (by decide +kernel), true, rfl, ?_⟩
    show if false = true then _ else _
    rw [if_neg Bool.false_ne_true]
    refine ⟨_, rfl, _, _, rfl, .inr hS, rfl, _, rfl, ?_⟩
    refine iteNS rfl ?_
    refine ⟨_, rfl, _, _, _, _, rfl, rfl, hS, atI_nat (j := 0) rfl, _, rfl, true, rfl, iteF ?_⟩
    refine ⟨_, rfl, _, _, _, _, rfl, rfl, hS, atI_nat (j := 1) rfl, _, rfl, true, rfl, iteF ?_⟩
    refine ⟨_, rfl, _, _, _, _, rfl, rfl, hS, atI_nat (j := 1) rfl, _, _, rfl, rfl, _, rfl, ?_⟩
    rw [decide_eq_false (show ¬ y ≤ 0 by omega)]
    refine iteF ?_
    refine ⟨_, rfl, _, _, _, _, rfl, rfl, hS, atI_nat (j := 0) rfl, _, rfl, _, _, _, _, rfl, rfl, hS, atI_nat (j := 1) rfl, x, y, rfl, by omega, hlog, fun r hr' => ?_⟩
    rw [lowI_self hL]
    have hd : ∀ z H2, H2 z = some (.tup [.int x, .int y]) → Dp K H2 (.ref z) (.tuple [.int x, .int y]) := fun z H2 e => .tup (.inl (.inl e)) (.cons (.int x) (.cons (.int y) .nil))
    have hpr : p ≠ r := ne_of_none hp hr'
    refine ⟨_, rfl, _, _, hd r _ upd_same, hd p _ (by rw [upd_ne hpr]; exact hp), rfl, rfl, ?_⟩
    rw [SeqAt.eqv_refl _ (by rfl)]
    exact q _ (same_new hr')

/-! ### lowest -/
def sp_lowest (C : Addr) : Sp := fun vs H Q E => ∃ t b : Int, vs = [.int t, .int b] ∧ b.natAbs.log2 < 9000 ∧ (b = 0 → E (.ref C) none H) ∧
  (b ≠ 0 → ∀ p, H p = none → Q (.ref p) (upd H p (.tup [.int (lowI t b).1, .int (lowI t b).2])))
theorem ok_lowest (T : Env K mg) : FnOk P w K mg base (L2.CX P w) 1 T.a_lowest T.fd_lowest ["top", "bottom"] (sp_lowest T.C_NoFraction) := by
  refine T.F_lowest.okX sc_lowest (fun vs H Q E h => ?_) (fun cdv A outer s H vs Q E hr h => ?_)
  · obtain ⟨t, b, rfl, _⟩ := h
    rfl
  · obtain ⟨t, b, rfl, hlog, k0, k1⟩ := h
    refine ⟨_, (pss_cons (ps_if (pt_cmpR op_eq (pv 1) pe_int (nomark _))
 (pss_one (ps_raise rfl (takes_of rfl rfl rfl rfl) (pmk_own PySem.F.excBase_ValueError T.x_NoFraction T.c_NoFraction T.k_NoFraction (raises_own T.bs_NoFraction T.ty_NoFraction) rfl)))
 pss_nil)
 (pss_cons (ps_set (i := 2) sc_lowest.nd rfl (.inl rfl) (pe_callBfun cr_gcd (by rfl) T.m_gcd (pa_cons (pv 0) (pa_cons (pv 1) pa_nil))))
 (C8.pss_cut (ps_if (pt_cmpR op_lt (pv 1) pe_int (nomark _))
 (pss_one (ps_set (i := 2) sc_lowest.nd rfl (.inl rfl) (pe_un un_neg (pv 2))))
 pss_nil)
 (pss_one (ps_ret (pe_tup (pa_cons (pe_op op_fdivX (pv 0) (pv 2)) (pa_cons (pe_op op_fdivX (pv 1) (pv 2)) pa_nil)))))))), ?_⟩
    refine ⟨_, rfl, rfl, _, rfl, ite2 (fun hd => ?_) (fun hd => ?_)⟩
    · exact k0 (V.int.inj (of_decide_eq_true hd))
    · have hb : b ≠ 0 := fun z => hd (by rw [z]; rfl)
      have q := k1 hb
      have hgp : 0 < Nat.gcd t.natAbs b.natAbs := Nat.gcd_pos_of_pos_right _ (by omega)
      have hgl := gcd_log (t := t) hb hlog
      refine ⟨_, rfl, _, rfl, _, _, rfl, ?_⟩
      generalize hG : Nat.gcd t.natAbs b.natAbs = g at *
      refine ⟨fun σ' H2 => H = H2 ∧ ((b < 0 ∧ σ' = [some (.int t), some (.int b), some (.int (-(g : Int)))]) ∨ (¬ b < 0 ∧ σ' = [some (.int t), some (.int b), some (.int (g : Int))])), ?_, ?_⟩
      · refine ⟨_, rfl, _, _, rfl, rfl, _, rfl, ite2 (fun hd => ?_) (fun hd => ?_)⟩
        · exact ⟨_, rfl, _, rfl, rfl, .inl ⟨of_decide_eq_true hd, rfl⟩⟩
        · exact ⟨rfl, .inr ⟨nd hd, rfl⟩⟩
      · rintro σ' H2 ⟨rfl, ⟨hn, rfl⟩ | ⟨hn, rfl⟩⟩
        · have hgn : (-(g : Int)).natAbs.log2 < 9000 := by rw [Int.natAbs_neg]; exact hgl
          refine ⟨_, rfl, _, rfl, _, _, rfl, rfl, ⟨by omega, hgn⟩, _, rfl, _, rfl, _, _, rfl, rfl, ⟨by omega, hgn⟩, (by show 2 ≤ sizeLine; decide), fun p hp => ?_⟩
          have := q p hp
          unfold lowI at this
          rw [if_pos hn, hG] at this
          show Q (.ref p) (upd H p (.tup [.int (t.fdiv (-(g : Int))), .int (b.fdiv (-(g : Int)))]))
          rw [fdiv_lowN (by omega), fdiv_lowN (by omega)]
          exact this
        · refine ⟨_, rfl, _, rfl, _, _, rfl, rfl, ⟨by omega, hgl⟩, _, rfl, _, rfl, _, _, rfl, rfl, ⟨by omega, hgl⟩, (by show 2 ≤ sizeLine; decide), fun p hp => ?_⟩
          have := q p hp
          unfold lowI at this
          rw [if_neg hn, hG] at this
          show Q (.ref p) (upd H p (.tup [.int (t.fdiv (g : Int)), .int (b.fdiv (g : Int))]))
          rw [fdiv_lowP (by omega), fdiv_lowP (by omega)]
          exact this

/-! ### parts: plus, less, times, over, smaller -/
theorem lt_mul {i j : Int} {a b n : Nat} (ha : i.natAbs < 2 ^ a) (hb : j.natAbs < 2 ^ b) (h : a + b ≤ n) : (i * j).natAbs < 2 ^ n :=
  Nat.lt_of_lt_of_le (wide_lt ha hb) (Nat.pow_le_pow_right (by decide) h)
theorem lt_add {i j : Int} {a n : Nat} (ha : i.natAbs < 2 ^ a) (hb : j.natAbs < 2 ^ a) (h : a + 1 ≤ n) : (i + j).natAbs < 2 ^ n := by
  have h1 : (i + j).natAbs < 2 ^ (a + 1) := by
    have := Int.natAbs_add_le i j
    rw [Nat.pow_succ]
    omega
  exact Nat.lt_of_lt_of_le h1 (Nat.pow_le_pow_right (by decide) h)
theorem lt_sub {i j : Int} {a n : Nat} (ha : i.natAbs < 2 ^ a) (hb : j.natAbs < 2 ^ a) (h : a + 1 ≤ n) : (i - j).natAbs < 2 ^ n := by
  rw [Int.sub_eq_add_neg]
  exact lt_add ha (by rw [Int.natAbs_neg]; exact hb) h
theorem mulW {i j : Int} {a b : Nat} (ha : i.natAbs < 2 ^ a) (hb : j.natAbs < 2 ^ b) (h0 : 0 < a) (h1 : 0 < b) (h : a + b ≤ 1000000) : IntMulOk i j := (wide_mul ha hb h0 h1 h).ok
/-- two fractions are handed in, at p and q; g tells what goes to lowest -/
def sp_two (K : PySem.W.Frag) (f : Int → Int → Int → Int → Int × Int) : Sp := fun vs H Q _ => ∃ (p q : Addr) (x y u v : Int), vs = [.ref p, .ref q] ∧ SqT K H p [.int x, .int y] ∧ SqT K H q [.int u, .int v] ∧
  0 < y ∧ 0 < v ∧ x.natAbs < 2 ^ 4000 ∧ y.natAbs < 2 ^ 4000 ∧ u.natAbs < 2 ^ 4000 ∧ v.natAbs < 2 ^ 4000 ∧
  ∀ r, H r = none → Q (.ref r) (upd H r (.tup [.int (lowI (f x y u v).1 (f x y u v).2).1, .int (lowI (f x y u v).1 (f x y u v).2).2]))
theorem ok_plus (T : Env K mg) : FnOk P w K mg base CX0 2 T.a_plus T.fd_plus ["one", "other"] (sp_two K fun x y u v => (x * v + u * y, y * v)) := by
  refine T.F_plus.ok sc_plus (fun vs H Q E h => ?_) (fun cdv A outer s H vs Q E hr h => ?_)
  · obtain ⟨p, q, x, y, u, v, rfl, _⟩ := h
    rfl
  · obtain ⟨p, q, x, y, u, v, rfl, hp, hq, hy, hv, bx, by', bu, bv, k⟩ := h
    refine ⟨_, (pss_one (ps_ret (pe_call (ok_lowest T) (hr.mono (by decide)) (by rfl) T.g_lowest T.F_lowest.kp T.b_lowest .nil passL (pa_cons (pe_op op_add (pe_op op_mulU (pe_ix ix_tup (pv 0) pe_int (fun _ _ => rfl)) (pe_ix ix_tup (pv 1) pe_int (fun _ _ => rfl))) (pe_op op_mulU (pe_ix ix_tup (pv 1) pe_int (fun _ _ => rfl)) (pe_ix ix_tup (pv 0) pe_int (fun _ _ => rfl)))) (pa_cons (pe_op op_mulU (pe_ix ix_tup (pv 0) pe_int (fun _ _ => rfl)) (pe_ix ix_tup (pv 1) pe_int (fun _ _ => rfl))) pa_nil))))), ?_⟩
    refine ⟨_, rfl, p, _, _, _, rfl, rfl, hp, atI_nat (j := 0) rfl, _, rfl, q, _, _, _, rfl, rfl, hq, atI_nat (j := 1) rfl, _, _, rfl, rfl, mulW bx bv (by decide) (by decide) (by decide), ?_⟩
    refine ⟨_, rfl, q, _, _, _, rfl, rfl, hq, atI_nat (j := 0) rfl, _, rfl, p, _, _, _, rfl, rfl, hp, atI_nat (j := 1) rfl, _, _, rfl, rfl, mulW bu by' (by decide) (by decide) (by decide), _, _, rfl, rfl, ?_⟩
    refine ⟨_, rfl, p, _, _, _, rfl, rfl, hp, atI_nat (j := 1) rfl, _, rfl, q, _, _, _, rfl, rfl, hq, atI_nat (j := 1) rfl, _, _, rfl, rfl, mulW by' bv (by decide) (by decide) (by decide), ?_⟩
    have hb : 0 < y * v := Int.mul_pos hy hv
    exact ⟨_, _, rfl, log_small (by decide) (lt_mul (n := 8999) by' bv (by decide)) (by decide), fun z => absurd z (by show y * v ≠ 0; omega), fun _ => k⟩
theorem ok_less (T : Env K mg) : FnOk P w K mg base CX0 2 T.a_less T.fd_less ["one", "other"] (sp_two K fun x y u v => (x * v - u * y, y * v)) := by
  refine T.F_less.ok sc_less (fun vs H Q E h => ?_) (fun cdv A outer s H vs Q E hr h => ?_)
  · obtain ⟨p, q, x, y, u, v, rfl, _⟩ := h
    rfl
  · obtain ⟨p, q, x, y, u, v, rfl, hp, hq, hy, hv, bx, by', bu, bv, k⟩ := h
    refine ⟨_, (pss_one (ps_ret (pe_call (ok_lowest T) (hr.mono (by decide)) (by rfl) T.g_lowest T.F_lowest.kp T.b_lowest .nil passL (pa_cons (pe_op op_sub (pe_op op_mulU (pe_ix ix_tup (pv 0) pe_int (fun _ _ => rfl)) (pe_ix ix_tup (pv 1) pe_int (fun _ _ => rfl))) (pe_op op_mulU (pe_ix ix_tup (pv 1) pe_int (fun _ _ => rfl)) (pe_ix ix_tup (pv 0) pe_int (fun _ _ => rfl)))) (pa_cons (pe_op op_mulU (pe_ix ix_tup (pv 0) pe_int (fun _ _ => rfl)) (pe_ix ix_tup (pv 1) pe_int (fun _ _ => rfl))) pa_nil))))), ?_⟩
    refine ⟨_, rfl, p, _, _, _, rfl, rfl, hp, atI_nat (j := 0) rfl, _, rfl, q, _, _, _, rfl, rfl, hq, atI_nat (j := 1) rfl, _, _, rfl, rfl, mulW bx bv (by decide) (by decide) (by decide), ?_⟩
    refine ⟨_, rfl, q, _, _, _, rfl, rfl, hq, atI_nat (j := 0) rfl, _, rfl, p, _, _, _, rfl, rfl, hp, atI_nat (j := 1) rfl, _, _, rfl, rfl, mulW bu by' (by decide) (by decide) (by decide), _, _, rfl, rfl, ?_⟩
    refine ⟨_, rfl, p, _, _, _, rfl, rfl, hp, atI_nat (j := 1) rfl, _, rfl, q, _, _, _, rfl, rfl, hq, atI_nat (j := 1) rfl, _, _, rfl, rfl, mulW by' bv (by decide) (by decide) (by decide), ?_⟩
    have hb : 0 < y * v := Int.mul_pos hy hv
    exact ⟨_, _, rfl, log_small (by decide) (lt_mul (n := 8999) by' bv (by decide)) (by decide), fun z => absurd z (by show y * v ≠ 0; omega), fun _ => k⟩
theorem ok_times (T : Env K mg) : FnOk P w K mg base CX0 2 T.a_times T.fd_times ["one", "other"] (sp_two K fun x y u v => (x * u, y * v)) := by
  refine T.F_times.ok sc_times (fun vs H Q E h => ?_) (fun cdv A outer s H vs Q E hr h => ?_)
  · obtain ⟨p, q, x, y, u, v, rfl, _⟩ := h
    rfl
  · obtain ⟨p, q, x, y, u, v, rfl, hp, hq, hy, hv, bx, by', bu, bv, k⟩ := h
    refine ⟨_, (pss_one (ps_ret (pe_call (ok_lowest T) (hr.mono (by decide)) (by rfl) T.g_lowest T.F_lowest.kp T.b_lowest .nil passL (pa_cons (pe_op op_mulU (pe_ix ix_tup (pv 0) pe_int (fun _ _ => rfl)) (pe_ix ix_tup (pv 1) pe_int (fun _ _ => rfl))) (pa_cons (pe_op op_mulU (pe_ix ix_tup (pv 0) pe_int (fun _ _ => rfl)) (pe_ix ix_tup (pv 1) pe_int (fun _ _ => rfl))) pa_nil))))), ?_⟩
    refine ⟨_, rfl, p, _, _, _, rfl, rfl, hp, atI_nat (j := 0) rfl, _, rfl, q, _, _, _, rfl, rfl, hq, atI_nat (j := 0) rfl, _, _, rfl, rfl, mulW bx bu (by decide) (by decide) (by decide), ?_⟩
    refine ⟨_, rfl, p, _, _, _, rfl, rfl, hp, atI_nat (j := 1) rfl, _, rfl, q, _, _, _, rfl, rfl, hq, atI_nat (j := 1) rfl, _, _, rfl, rfl, mulW by' bv (by decide) (by decide) (by decide), ?_⟩
    have hb : 0 < y * v := Int.mul_pos hy hv
    exact ⟨_, _, rfl, log_small (by decide) (lt_mul (n := 8999) by' bv (by decide)) (by decide), fun z => absurd z (by show y * v ≠ 0; omega), fun _ => k⟩
/-- a quotient: refused where the second is nought -/
def sp_over (K : PySem.W.Frag) (C : Addr) : Sp := fun vs H Q E => ∃ (p q : Addr) (x y u v : Int), vs = [.ref p, .ref q] ∧ SqT K H p [.int x, .int y] ∧ SqT K H q [.int u, .int v] ∧
  0 < y ∧ x.natAbs < 2 ^ 4000 ∧ y.natAbs < 2 ^ 4000 ∧ u.natAbs < 2 ^ 4000 ∧ v.natAbs < 2 ^ 4000 ∧ (u = 0 → E (.ref C) none H) ∧
  (u ≠ 0 → ∀ r, H r = none → Q (.ref r) (upd H r (.tup [.int (lowI (x * v) (y * u)).1, .int (lowI (x * v) (y * u)).2])))
theorem ok_over (T : Env K mg) : FnOk P w K mg base (L2.CX P w) 2 T.a_over T.fd_over ["one", "other"] (sp_over K T.C_NoFraction) := by
  refine T.F_over.okX sc_over (fun vs H Q E h => ?_) (fun cdv A outer s H vs Q E hr h => ?_)
  · obtain ⟨p, q, x, y, u, v, rfl, _⟩ := h
    rfl
  · obtain ⟨p, q, x, y, u, v, rfl, hp, hq, hy, bx, by', bu, bv, k0, k⟩ := h
    refine ⟨_, (pss_one (ps_ret (pe_callS (ok_lowest T) (hr.mono (by decide)) (by rfl) T.g_lowest T.F_lowest.kp T.b_lowest (fun σ => passAt (takes_of rfl rfl rfl rfl) σ) (pa_cons (pe_op op_mulU (pe_ix ix_tup (pv 0) pe_int (fun _ _ => rfl)) (pe_ix ix_tup (pv 1) pe_int (fun _ _ => rfl))) (pa_cons (pe_op op_mulU (pe_ix ix_tup (pv 0) pe_int (fun _ _ => rfl)) (pe_ix ix_tup (pv 1) pe_int (fun _ _ => rfl))) pa_nil))))), ?_⟩
    refine ⟨_, rfl, p, _, _, _, rfl, rfl, hp, atI_nat (j := 0) rfl, _, rfl, q, _, _, _, rfl, rfl, hq, atI_nat (j := 1) rfl, _, _, rfl, rfl, mulW bx bv (by decide) (by decide) (by decide), ?_⟩
    refine ⟨_, rfl, p, _, _, _, rfl, rfl, hp, atI_nat (j := 1) rfl, _, rfl, q, _, _, _, rfl, rfl, hq, atI_nat (j := 0) rfl, _, _, rfl, rfl, mulW by' bu (by decide) (by decide) (by decide), ?_⟩
    refine ⟨_, _, rfl, log_small (by decide) (lt_mul (n := 8999) by' bu (by decide)) (by decide), fun z => ?_, fun z => ?_⟩
    · refine k0 ?_
      rcases Int.mul_eq_zero.mp z with h | h
      · omega
      · exact h
    · exact k fun h => z (by show y * u = 0; rw [h, Int.mul_zero])
def sp_smaller (K : PySem.W.Frag) : Sp := fun vs H Q _ => ∃ (p q : Addr) (x y u v : Int), vs = [.ref p, .ref q] ∧ SqT K H p [.int x, .int y] ∧ SqT K H q [.int u, .int v] ∧
  x.natAbs < 2 ^ 4000 ∧ y.natAbs < 2 ^ 4000 ∧ u.natAbs < 2 ^ 4000 ∧ v.natAbs < 2 ^ 4000 ∧ Q (.bl (decide (x * v < u * y))) H
theorem ok_smaller (T : Env K mg) : FnOk P w K mg base CX0 1 T.a_smaller T.fd_smaller ["one", "other"] (sp_smaller K) := by
  refine T.F_smaller.ok sc_smaller (fun vs H Q E h => ?_) (fun cdv A outer s H vs Q E hr h => ?_)
  · obtain ⟨p, q, x, y, u, v, rfl, _⟩ := h
    rfl
  · obtain ⟨p, q, x, y, u, v, rfl, hp, hq, bx, by', bu, bv, k⟩ := h
    refine ⟨_, (pss_one (ps_ret (pe_cmpR op_lt (pe_op op_mulU (pe_ix ix_tup (pv 0) pe_int (fun _ _ => rfl)) (pe_ix ix_tup (pv 1) pe_int (fun _ _ => rfl))) (pe_op op_mulU (pe_ix ix_tup (pv 1) pe_int (fun _ _ => rfl)) (pe_ix ix_tup (pv 0) pe_int (fun _ _ => rfl))) (nomark _)))), ?_⟩
    refine ⟨_, rfl, p, _, _, _, rfl, rfl, hp, atI_nat (j := 0) rfl, _, rfl, q, _, _, _, rfl, rfl, hq, atI_nat (j := 1) rfl, _, _, rfl, rfl, mulW bx bv (by decide) (by decide) (by decide), ?_⟩
    exact ⟨_, rfl, q, _, _, _, rfl, rfl, hq, atI_nat (j := 0) rfl, _, rfl, p, _, _, _, rfl, rfl, hp, atI_nat (j := 1) rfl, _, _, rfl, rfl, mulW bu by' (by decide) (by decide) (by decide), _, _, rfl, rfl, k⟩

def sp_refused (K : PySem.W.Frag) : Sp := fun vs H Q _ => ∃ (p q : Addr) (x y v : Int), vs = [.ref p, .ref q] ∧ SqT K H p [.int x, .int y] ∧ SqT K H q [.int 0, .int v] ∧
  0 < y ∧ x.natAbs < 2 ^ 4000 ∧ y.natAbs < 2 ^ 4000 ∧ v.natAbs < 2 ^ 4000 ∧ Q (.bl true) H
theorem ok__law_refused (T : Env K mg) : FnOk P w K mg base CX0 3 T.a__law_refused T.fd__law_refused ["_law_one", "_law_other"] (sp_refused K) := by
  refine T.F__law_refused.ok sc__law_refused (fun vs H Q E h => ?_) (fun cdv A outer s H vs Q E hr h => ?_)
  · obtain ⟨p, q, x, y, v, rfl, _⟩ := h
    rfl
  · obtain ⟨p, q, x, y, v, rfl, hp, hq, hy, bx, by', bv, k⟩ := h
    refine ⟨_, (pss_cons (ps_try_as (i := 2) rfl rfl sc__law_refused.nd rfl rfl ⟨rfl, by decide, .inl T.c_MeadError⟩ takes0 (fun W pn xe tk _ => (pss_one (ps_expr (pe_callS (ok_over T) (hr.mono (by decide)) (by rfl) T.g_over T.F_over.kp T.b_over (fun σ => passAt tk σ) (pa_cons (pv 0) (pa_cons (pv 1) pa_nil)))))) (fun a oe cls d pn hz hf => (pss_guard (P := cls = .ref T.C_NoFraction ∧ d = none) (fun hP => (pss_one (ps_ret (pe_callB (call_isE T.e_NoFraction (zc_of hz hP) hf) (by rfl) T.m_isinstance (by decide +kernel) (pa_cons (pv 2) (pa_cons (pe_glob (v := .ref T.C_NoFraction) rfl T.c_NoFraction rfl) pa_nil)))))))))
 (pss_one (ps_ret pe_bl))), ?_⟩
    refine ⟨_, rfl, _, rfl, p, q, x, y, 0, v, rfl, hp, hq, hy, bx, by', by decide, bv, fun _ => ?_, fun h => absurd rfl h⟩
    refine ⟨true, PySem.W.exm_ref T.bs_MeadError T.e_MeadError.hd T.ty_MeadError T.sub_NoFraction_MeadError, fun _ a ha => ⟨⟨rfl, rfl⟩, ?_⟩, fun z => nomatch z⟩
    exact ⟨_, rfl, _, _, _, rfl, (fun _ z => z), T.kit_NoFraction_NoFraction, k⟩
/-- a told pair, held against top and bottom by cross products -/
def sp_is : Sp := fun vs H Q _ => ∃ (p : Addr) (x y t b : Int), vs = [.ref p, .int t, .int b] ∧ H p = some (.tup [.int x, .int y]) ∧ Low x y ∧ x * b = y * t ∧
  x.natAbs < 2 ^ 8500 ∧ y.natAbs < 2 ^ 8500 ∧ t.natAbs < 2 ^ 8500 ∧ b.natAbs < 2 ^ 8500 ∧ ∀ H', Same H H' → Q (.bl true) H'
theorem ok__law_is (T : Env K mg) : FnOk P w K mg base CX0 3 T.a__law_is T.fd__law_is ["_law_found", "_law_top", "_law_bottom"] sp_is := by
  refine T.F__law_is.ok sc__law_is (fun vs H Q E h => ?_) (fun cdv A outer s H vs Q E hr h => ?_)
  · obtain ⟨p, x, y, t, b, rfl, _⟩ := h
    rfl
  · obtain ⟨p, x, y, t, b, rfl, hp, hL, hx, bx, by', bt, bb, k⟩ := h
    refine ⟨_, (pss_one (ps_ret (pe_and (pe_call (ok__law_part T) (hr.mono (by decide)) (by rfl) T.g__law_part T.F__law_part.kp T.b__law_part .nil pass0 (pa_cons (pv 0) pa_nil)) (pe_one (pe_cmpR op_eq (pe_op op_mulU (pe_ix ix_tup (pv 0) pe_int (fun _ _ => rfl)) (pv 2)) (pe_op op_mulU (pe_ix ix_tup (pv 0) pe_int (fun _ _ => rfl)) (pv 1)) (nomark _)))))), ?_⟩
    refine ⟨_, rfl, p, x, y, rfl, hp, hL, log_small (by decide) by' (by decide), fun H3 h3 => ⟨true, rfl, iteT ?_⟩⟩
    have hF : SqT K H3 p [.int x, .int y] := .inl (.inl (h3 _ _ hp))
    refine ⟨_, rfl, p, _, _, _, rfl, rfl, hF, atI_nat (j := 0) rfl, _, rfl, _, _, rfl, rfl, mulW bx bb (by decide) (by decide) (by decide), ?_⟩
    refine ⟨_, rfl, p, _, _, _, rfl, rfl, hF, atI_nat (j := 1) rfl, _, rfl, _, _, rfl, rfl, mulW by' bt (by decide) (by decide) (by decide), rfl, ?_⟩
    rw [decide_eq_true (show V.int (x * b) = V.int (y * t) from congrArg V.int hx)]
    exact k _ h3
theorem is_fact {t b : Int} (hb : b ≠ 0) (ht : t.natAbs < 2 ^ 8500) (hbb : b.natAbs < 2 ^ 8500) : Low (lowI t b).1 (lowI t b).2 ∧ (lowI t b).1 * b = (lowI t b).2 * t ∧
    (lowI t b).1.natAbs < 2 ^ 8500 ∧ (lowI t b).2.natAbs < 2 ^ 8500 ∧ t.natAbs < 2 ^ 8500 ∧ b.natAbs < 2 ^ 8500 := by
  obtain ⟨hL, hx, hy1, hx1⟩ := lowI_ok (t := t) hb
  exact ⟨hL, hx, Nat.lt_of_le_of_lt hx1 ht, Nat.lt_of_le_of_lt hy1 hbb, ht, hbb⟩
theorem Same.tup {K : PySem.W.Frag} {H H' : Hp} {a : Addr} {xs : List V} (e : Same H H') (h : H a = some (.tup xs)) : SqT K H' a xs := .inl (.inl (e _ _ h))
def sp_law (K : PySem.W.Frag) : Sp := fun vs H Q _ => ∃ (a : Addr) (ns : List Int), vs = [.ref a] ∧ SqL K H a (ns.map V.int) ∧ ns.length ≤ 63 ∧ ∀ H', Q (.bl true) H'
/-- a fraction that stands at p, of few figures -/
structure Fr (H : Hp) (p : Addr) (n : Nat) : Prop where
  ex : ∃ x y : Int, H p = some (.tup [.int x, .int y]) ∧ Low x y ∧ x.natAbs < 2 ^ n ∧ y.natAbs < 2 ^ n
theorem fr_new {H : Hp} {p : Addr} {t b : Int} {n : Nat} (hb : b ≠ 0) (ht : t.natAbs < 2 ^ n) (hbb : b.natAbs < 2 ^ n) : Fr (upd H p (.tup [.int (lowI t b).1, .int (lowI t b).2])) p n := by
  obtain ⟨hL, hx, hy1, hx1⟩ := lowI_ok (t := t) hb
  exact ⟨_, _, upd_same, hL, Nat.lt_of_le_of_lt hx1 ht, Nat.lt_of_le_of_lt hy1 hbb⟩
theorem Fr.up {H : Hp} {p : Addr} {n m : Nat} (h : Fr H p n) (l : n ≤ m) : Fr H p m := by
  obtain ⟨x, y, h1, h2, h3, h4⟩ := h.ex
  have := Nat.pow_le_pow_right (show 0 < 2 by decide) l
  exact ⟨x, y, h1, h2, by omega, by omega⟩
theorem Fr.same {H H' : Hp} {p : Addr} {n : Nat} (h : Fr H p n) (s : Same H H') : Fr H' p n := by
  obtain ⟨x, y, h1, h2⟩ := h.ex
  exact ⟨x, y, s _ _ h1, h2⟩
def mid2 (a p : Addr) (H1 : Hp) : L2.St → Hp → Prop := fun σ' H2 => ∃ c d : Addr, σ' = [some (.ref a), some (.ref p), some (.ref c), some (.ref d), none, none, none, none, none] ∧ Same H1 H2 ∧ Fr H2 c 400 ∧ Fr H2 d 400
theorem ok_law (T : Env K mg) : FnOk P w K mg base CX0 4 T.a_law T.fd_law ["_law_script"] (sp_law K) := by
  refine T.F_law.ok sc_law (fun vs H Q E h => ?_) (fun cdv A outer s H vs Q E hr h => ?_)
  · obtain ⟨a, ns, rfl, _⟩ := h
    rfl
  · obtain ⟨a, ns, rfl, hS, hl, q⟩ := h
    refine ⟨_, (pss_cons (ps_set (i := 1) sc_law.nd rfl (.inl rfl) (pe_call (ok__law_flow T) (hr.mono (by decide)) (by rfl) T.g__law_flow T.F__law_flow.kp T.b__law_flow .nil pass0 (pa_cons (pv 0) (pa_cons pe_int pa_nil))))
 (pss_cons (ps_set (i := 2) sc_law.nd rfl (.inl rfl) (pe_call (ok__law_low T) (hr.mono (by decide)) (by rfl) T.g__law_low T.F__law_low.kp T.b__law_low .nil pass0 (pa_cons (pe_op op_sub (pe_op op_mod (pe_ix ix_list (pv 1) pe_int (fun _ _ => rfl)) pe_int) pe_int) (pa_cons (pe_op op_add pe_int (pe_op op_mod (pe_ix ix_list (pv 1) pe_int (fun _ _ => rfl)) pe_int)) pa_nil))))
 (pss_cons (ps_set (i := 3) sc_law.nd rfl (.inl rfl) (pe_call (ok__law_low T) (hr.mono (by decide)) (by rfl) T.g__law_low T.F__law_low.kp T.b__law_low .nil pass0 (pa_cons (pe_op op_sub (pe_op op_mod (pe_ix ix_list (pv 1) pe_int (fun _ _ => rfl)) pe_int) pe_int) (pa_cons (pe_op op_add pe_int (pe_op op_mod (pe_ix ix_list (pv 1) pe_int (fun _ _ => rfl)) pe_int)) pa_nil))))
 (C8.pss_cut (ps_if (pt_cmpR op_eq (pe_op op_mod (pe_ix ix_list (pv 1) pe_int (fun _ _ => rfl)) pe_int) pe_int (nomark _))
 (pss_cons (ps_set (i := 2) sc_law.nd rfl (.inl rfl) (pe_call (ok__law_low T) (hr.mono (by decide)) (by rfl) T.g__law_low T.F__law_low.kp T.b__law_low .nil pass0 (pa_cons (pe_op op_mulU (pe_ix ix_tup (pv 2) pe_int (fun _ _ => rfl)) (pe_op op_add (pe_op op_pow pe_int pe_int) (pe_ix ix_list (pv 1) pe_int (fun _ _ => rfl)))) (pa_cons (pe_op op_mulU (pe_ix ix_tup (pv 2) pe_int (fun _ _ => rfl)) (pe_op op_add (pe_op op_pow pe_int pe_int) (pe_ix ix_list (pv 1) pe_int (fun _ _ => rfl)))) pa_nil))))
 (pss_one (ps_set (i := 3) sc_law.nd rfl (.inl rfl) (pe_call (ok__law_low T) (hr.mono (by decide)) (by rfl) T.g__law_low T.F__law_low.kp T.b__law_low .nil pass0 (pa_cons (pe_op op_mulU (pe_ix ix_tup (pv 3) pe_int (fun _ _ => rfl)) (pe_op op_add (pe_op op_pow pe_int pe_int) (pe_ix ix_list (pv 1) pe_int (fun _ _ => rfl)))) (pa_cons (pe_op op_mulU (pe_ix ix_tup (pv 3) pe_int (fun _ _ => rfl)) (pe_op op_add (pe_op op_pow pe_int pe_int) (pe_ix ix_list (pv 1) pe_int (fun _ _ => rfl)))) pa_nil))))))
 pss_nil)
 (C8.pss_cut (ps_if (pt_cmpR op_eq (pe_op op_mod (pe_ix ix_list (pv 1) pe_int (fun _ _ => rfl)) pe_int) pe_int (nomark _))
 (pss_one (ps_set (i := 3) sc_law.nd rfl (.inl rfl) (pv 2)))
 pss_nil)
 (pss_cons (ps_asg (pv 2) (pg_tup rfl (pgs_cons (pg_name (i := 4) sc_law.nd rfl (.inl rfl)) (pgs_cons (pg_name (i := 5) sc_law.nd rfl (.inl rfl)) pgs_nil))))
 (pss_cons (ps_asg (pv 3) (pg_tup rfl (pgs_cons (pg_name (i := 6) sc_law.nd rfl (.inl rfl)) (pgs_cons (pg_name (i := 7) sc_law.nd rfl (.inl rfl)) pgs_nil))))
 (pss_cons (ps_if (PW.pt (pw_or (pt_not (pt_val (pe_call (ok__law_is T) (hr.mono (by decide)) (by rfl) T.g__law_is T.F__law_is.kp T.b__law_is .nil pass0 (pa_cons (pe_call (ok_plus T) (hr.mono (by decide)) (by rfl) T.g_plus T.F_plus.kp T.b_plus .nil pass0 (pa_cons (pv 2) (pa_cons (pv 3) pa_nil))) (pa_cons (pe_op op_add (pe_op op_mulU (pv 4) (pv 7)) (pe_op op_mulU (pv 6) (pv 5))) (pa_cons (pe_op op_mulU (pv 5) (pv 7)) pa_nil)))))) (pw_or1 (pt_not (pt_val (pe_call (ok__law_is T) (hr.mono (by decide)) (by rfl) T.g__law_is T.F__law_is.kp T.b__law_is .nil pass0 (pa_cons (pe_call (ok_less T) (hr.mono (by decide)) (by rfl) T.g_less T.F_less.kp T.b_less .nil pass0 (pa_cons (pv 2) (pa_cons (pv 3) pa_nil))) (pa_cons (pe_op op_sub (pe_op op_mulU (pv 4) (pv 7)) (pe_op op_mulU (pv 6) (pv 5))) (pa_cons (pe_op op_mulU (pv 5) (pv 7)) pa_nil)))))))))
 (pss_one (ps_ret pe_bl))
 pss_nil)
 (pss_cons (ps_if (pt_not (pt_val (pe_call (ok__law_is T) (hr.mono (by decide)) (by rfl) T.g__law_is T.F__law_is.kp T.b__law_is .nil pass0 (pa_cons (pe_call (ok_times T) (hr.mono (by decide)) (by rfl) T.g_times T.F_times.kp T.b_times .nil pass0 (pa_cons (pv 2) (pa_cons (pv 3) pa_nil))) (pa_cons (pe_op op_mulU (pv 4) (pv 6)) (pa_cons (pe_op op_mulU (pv 5) (pv 7)) pa_nil))))))
 (pss_one (ps_ret pe_bl))
 pss_nil)
 (pss_cons (ps_set (i := 8) sc_law.nd rfl (.inl rfl) (pe_call (ok_smaller T) (hr.mono (by decide)) (by rfl) T.g_smaller T.F_smaller.kp T.b_smaller .nil pass0 (pa_cons (pv 2) (pa_cons (pv 3) pa_nil))))
 (pss_cons (ps_if (PW.pt (pw_or (pt_not (pt_val (pe_callB call_isi (by rfl) T.m_isinstance (by decide +kernel) (pa_cons (pv 8) (pa_cons (pe_bltn (v := .ty "bool") (u := .type "bool") (by rfl) T.m_bool (by decide +kernel) rfl) pa_nil))))) (pw_or1 (pt_cmpR op_ne (pv 8) (pe_cmpR op_lt (pe_op op_mulU (pv 4) (pv 7)) (pe_op op_mulU (pv 6) (pv 5)) (nomark _)) (nomark _)))))
 (pss_one (ps_ret pe_bl))
 pss_nil)
 (pss_cons (ps_if (pt_cmpR op_eq (pv 6) pe_int (nomark _))
 (pss_one (ps_ret (pe_call (ok__law_refused T) (hr.mono (by decide)) (by rfl) T.g__law_refused T.F__law_refused.kp T.b__law_refused .nil pass0 (pa_cons (pv 2) (pa_cons (pv 3) pa_nil)))))
 pss_nil)
 (pss_one (ps_ret (pe_call (ok__law_is T) (hr.mono (by decide)) (by rfl) T.g__law_is T.F__law_is.kp T.b__law_is .nil pass0 (pa_cons (pe_call (ok_over T) (hr.mono (by decide)) (by rfl) T.g_over T.F_over.kp T.b_over .nil passL (pa_cons (pv 2) (pa_cons (pv 3) pa_nil))) (pa_cons (pe_op op_mulU (pv 4) (pv 7)) (pa_cons (pe_op op_mulU (pv 5) (pv 6)) pa_nil)))))))))))))))))), ?_⟩
    refine ⟨_, rfl, a, ns, 6, rfl, hS, hl, by decide, by decide, fun H1 p rs hs hp hlen hro hrow => ?_⟩
    obtain ⟨r0, r1, r2, r3, r4, r5, rfl⟩ : ∃ r0 r1 r2 r3 r4 r5, rs = [r0, r1, r2, r3, r4, r5] := by
      match rs, hlen with
      | [a, b, c, d, e, f], _ => exact ⟨a, b, c, d, e, f, rfl⟩
    have hR : ∀ {H2}, Same H1 H2 → SqL K H2 p ([r0, r1, r2, r3, r4, r5].map V.int) := fun s => .inl (.inl (s _ _ hrow))
    have R0 := hR (Same.refl H1)
    have b1 := hro r1 (by simp)
    have b2 := hro r2 (by simp)
    have b3 := hro r3 (by simp)
    have b5 := hro r5 (by simp)
    refine ⟨_, rfl, p, _, _, _, rfl, rfl, R0, atI_nat (j := 1) rfl, _, _, rfl, rfl, (by show (0 : Int) < _; decide), _, _, rfl, rfl, ?_⟩
    refine ⟨_, rfl, p, _, _, _, rfl, rfl, R0, atI_nat (j := 2) rfl, _, _, rfl, rfl, (by show (0 : Int) < _; decide), _, _, rfl, rfl, ?_⟩
    have e1 : (r1 % 81 - 40).natAbs < 2 ^ 40 := by omega
    have e2 : (1 + r2 % 30).natAbs < 2 ^ 40 := by omega
    refine ⟨_, _, rfl, (by show 1 + r2 % 30 ≠ 0; omega), log_small (by decide) e2 (by decide), fun c hc => ?_⟩
    have s1 : Same H1 _ := same_new (o := .tup [.int (lowI (r1 % 81 - 40) (1 + r2 % 30)).1, .int (lowI (r1 % 81 - 40) (1 + r2 % 30)).2]) hc
    have fc := fr_new (H := H1) (p := c) (t := r1 % 81 - 40) (b := 1 + r2 % 30) (by omega) e1 e2
    have R1 := hR s1
    refine ⟨_, rfl, p, _, _, _, rfl, rfl, R1, atI_nat (j := 3) rfl, _, _, rfl, rfl, (by show (0 : Int) < _; decide), _, _, rfl, rfl, ?_⟩
    refine ⟨_, rfl, p, _, _, _, rfl, rfl, R1, atI_nat (j := 4) rfl, _, _, rfl, rfl, (by show (0 : Int) < _; decide), _, _, rfl, rfl, ?_⟩
    have e3 : (r3 % 81 - 40).natAbs < 2 ^ 40 := by omega
    have e4 : (1 + r4 % 30).natAbs < 2 ^ 40 := by omega
    refine ⟨_, _, rfl, (by show 1 + r4 % 30 ≠ 0; omega), log_small (by decide) e4 (by decide), fun d hd => ?_⟩
    have s2 : Same _ _ := same_new (o := .tup [.int (lowI (r3 % 81 - 40) (1 + r4 % 30)).1, .int (lowI (r3 % 81 - 40) (1 + r4 % 30)).2]) hd
    have fd := fr_new (H := upd H1 c (.tup [.int (lowI (r1 % 81 - 40) (1 + r2 % 30)).1, .int (lowI (r1 % 81 - 40) (1 + r2 % 30)).2])) (p := d) (t := r3 % 81 - 40) (b := 1 + r4 % 30) (by omega) e3 e4
    have fc2 := fc.same s2
    have s3 := s1.trans s2
    have R2 := hR s3
    generalize upd (upd H1 c _) d _ = H2 at *
    refine ⟨mid2 a p H1, ?_, ?_⟩
    · refine ⟨_, rfl, p, _, _, _, rfl, rfl, R2, atI_nat (j := 0) rfl, _, _, rfl, rfl, (by show (0 : Int) < _; decide), rfl, _, rfl, ite2 (fun _ => ?_) (fun _ => ⟨c, d, rfl, s3, fc2.up (by decide), fd.up (by decide)⟩)⟩
      obtain ⟨x, y, hx, hL, bx, by'⟩ := fc2.ex
      obtain ⟨u, v, hu, hM, bu, bv⟩ := fd.ex
      have p1 := hL.pos
      have p2 := hM.pos
      have q1 : (10 ^ 30 + r5).natAbs < 2 ^ 120 := by omega
      have q2 : (10 ^ 29 + r3).natAbs < 2 ^ 120 := by omega
      have q3 : (10 ^ 31 + r1).natAbs < 2 ^ 120 := by omega
      have q4 : (10 ^ 28 + r2).natAbs < 2 ^ 120 := by omega
      have hc2 : SqT K H2 c [.int x, .int y] := .inl (.inl hx)
      refine ⟨_, rfl, c, _, _, _, rfl, rfl, hc2, atI_nat (j := 0) rfl, _, _, rfl, rfl, ⟨by decide, by decide, by decide⟩, _, rfl, p, _, _, _, rfl, rfl, R2, atI_nat (j := 5) rfl, _, _, rfl, rfl, _, _, rfl, rfl, mulW bx q1 (by decide) (by decide) (by decide), ?_⟩
      refine ⟨_, rfl, c, _, _, _, rfl, rfl, hc2, atI_nat (j := 1) rfl, _, _, rfl, rfl, ⟨by decide, by decide, by decide⟩, _, rfl, p, _, _, _, rfl, rfl, R2, atI_nat (j := 3) rfl, _, _, rfl, rfl, _, _, rfl, rfl, mulW by' q2 (by decide) (by decide) (by decide), ?_⟩
      have z1 : y * (10 ^ 29 + r3) ≠ 0 := by have : 0 < y * (10 ^ 29 + r3) := Int.mul_pos p1 (by omega); omega
      have l1 : (x * (10 ^ 30 + r5)).natAbs < 2 ^ 400 := lt_mul bx q1 (by decide)
      have l2 : (y * (10 ^ 29 + r3)).natAbs < 2 ^ 400 := lt_mul by' q2 (by decide)
      refine ⟨x * (10 ^ 30 + r5), y * (10 ^ 29 + r3), rfl, z1, log_small (by decide) l2 (by decide), fun e he => ?_⟩
      have s4 : Same H2 _ := same_new (o := .tup [.int (lowI (x * (10 ^ 30 + r5)) (y * (10 ^ 29 + r3))).1, .int (lowI (x * (10 ^ 30 + r5)) (y * (10 ^ 29 + r3))).2]) he
      have fe := fr_new (H := H2) (p := e) z1 l1 l2
      have R3 := hR (s3.trans s4)
      have hd2 : SqT K _ d [.int u, .int v] := .inl (.inl (s4 _ _ hu))
      have s5 := s3.trans s4
      generalize upd H2 e _ = H4 at *
      refine ⟨_, rfl, d, _, _, _, rfl, rfl, hd2, atI_nat (j := 0) rfl, _, _, rfl, rfl, ⟨by decide, by decide, by decide⟩, _, rfl, p, _, _, _, rfl, rfl, R3, atI_nat (j := 1) rfl, _, _, rfl, rfl, _, _, rfl, rfl, mulW bu q3 (by decide) (by decide) (by decide), ?_⟩
      refine ⟨_, rfl, d, _, _, _, rfl, rfl, hd2, atI_nat (j := 1) rfl, _, _, rfl, rfl, ⟨by decide, by decide, by decide⟩, _, rfl, p, _, _, _, rfl, rfl, R3, atI_nat (j := 2) rfl, _, _, rfl, rfl, _, _, rfl, rfl, mulW bv q4 (by decide) (by decide) (by decide), ?_⟩
      have z2 : v * (10 ^ 28 + r2) ≠ 0 := by have : 0 < v * (10 ^ 28 + r2) := Int.mul_pos p2 (by omega); omega
      have l3 : (u * (10 ^ 31 + r1)).natAbs < 2 ^ 400 := lt_mul bu q3 (by decide)
      have l4 : (v * (10 ^ 28 + r2)).natAbs < 2 ^ 400 := lt_mul bv q4 (by decide)
      refine ⟨u * (10 ^ 31 + r1), v * (10 ^ 28 + r2), rfl, z2, log_small (by decide) l4 (by decide), fun f hf => ?_⟩
      exact ⟨e, f, rfl, s5.trans (same_new hf), fe.same (same_new hf), fr_new z2 l3 l4⟩
    · rintro _ H4 ⟨c, d, rfl, s4, fc, fd⟩
      have R4 := hR s4
      refine ⟨mid2 a p H1, ?_, ?_⟩
      · exact ⟨_, rfl, p, _, _, _, rfl, rfl, R4, atI_nat (j := 0) rfl, _, _, rfl, rfl, (by show (0 : Int) < _; decide), rfl, _, rfl, ite2 (fun _ => ⟨_, rfl, c, c, rfl, s4, fc, fc⟩) (fun _ => ⟨c, d, rfl, s4, fc, fd⟩)⟩
      · rintro _ H5 ⟨c, d, rfl, s5, fc, fd⟩
        obtain ⟨x, y, hx, hL, bx, by'⟩ := fc.ex
        obtain ⟨u, v, hu, hM, bu, bv⟩ := fd.ex
        have p1 := hL.pos
        have p2 := hM.pos
        have S1 : ∀ {H}, Same H5 H → SqT K H c [.int x, .int y] := fun s => .inl (.inl (s _ _ hx))
        have S2 : ∀ {H}, Same H5 H → SqT K H d [.int u, .int v] := fun s => .inl (.inl (s _ _ hu))
        have T1 := S1 (Same.refl H5)
        have T2 := S2 (Same.refl H5)
        have up : ∀ {z : Int}, z.natAbs < 2 ^ 400 → z.natAbs < 2 ^ 4000 := fun h => Nat.lt_of_lt_of_le h (Nat.pow_le_pow_right (by decide) (by decide))
        have m1 := mulW bx bv (by decide) (by decide) (by decide)
        have m2 := mulW bu by' (by decide) (by decide) (by decide)
        have m3 := mulW by' bv (by decide) (by decide) (by decide)
        have m4 := mulW bx bu (by decide) (by decide) (by decide)
        have m5 := mulW by' bu (by decide) (by decide) (by decide)
        have n1 : (x * v).natAbs < 2 ^ 8400 := lt_mul bx bv (by decide)
        have n2 : (u * y).natAbs < 2 ^ 8400 := lt_mul bu by' (by decide)
        have n3 : (y * v).natAbs < 2 ^ 8500 := lt_mul by' bv (by decide)
        have n4 : (x * u).natAbs < 2 ^ 8500 := lt_mul bx bu (by decide)
        have n5 : (y * u).natAbs < 2 ^ 8500 := lt_mul by' bu (by decide)
        have z0 : y * v ≠ 0 := by have : 0 < y * v := Int.mul_pos p1 p2; omega
        refine ⟨_, rfl, c, _, rfl, T1, rfl, _, _, rfl, _, _, rfl, rfl, ?_⟩
        refine ⟨_, rfl, d, _, rfl, T2, rfl, _, _, rfl, _, _, rfl, rfl, ?_⟩
        -- plus
        refine ⟨_, rfl, _, rfl, c, d, x, y, u, v, rfl, T1, T2, p1, p2, up bx, up by', up bu, up bv, fun r nr => ?_⟩
        refine ⟨_, rfl, _, rfl, _, _, rfl, rfl, m1, _, rfl, _, rfl, _, _, rfl, rfl, m2, _, _, rfl, rfl, _, rfl, _, rfl, _, _, rfl, rfl, m3, ?_⟩
        obtain ⟨i1, i2, i3, i4, i5, i6⟩ := is_fact z0 (lt_add n1 n2 (by decide)) n3
        refine ⟨r, _, _, _, _, rfl, upd_same, i1, i2, i3, i4, i5, i6, fun H6 h6 => ⟨true, rfl, iteF ?_⟩⟩
        have s6 := (same_new nr).trans h6
        -- less
        refine ⟨_, rfl, _, rfl, c, d, x, y, u, v, rfl, S1 s6, S2 s6, p1, p2, up bx, up by', up bu, up bv, fun r2 nr2 => ?_⟩
        refine ⟨_, rfl, _, rfl, _, _, rfl, rfl, m1, _, rfl, _, rfl, _, _, rfl, rfl, m2, _, _, rfl, rfl, _, rfl, _, rfl, _, _, rfl, rfl, m3, ?_⟩
        obtain ⟨i1, i2, i3, i4, i5, i6⟩ := is_fact z0 (lt_sub n1 n2 (by decide)) n3
        refine ⟨r2, _, _, _, _, rfl, upd_same, i1, i2, i3, i4, i5, i6, fun H7 h7 => ⟨true, rfl, iteF ?_⟩⟩
        have s7 := s6.trans ((same_new nr2).trans h7)
        -- times
        refine ⟨_, rfl, _, rfl, c, d, x, y, u, v, rfl, S1 s7, S2 s7, p1, p2, up bx, up by', up bu, up bv, fun r3 nr3 => ?_⟩
        refine ⟨_, rfl, _, rfl, _, _, rfl, rfl, m4, _, rfl, _, rfl, _, _, rfl, rfl, m3, ?_⟩
        obtain ⟨i1, i2, i3, i4, i5, i6⟩ := is_fact z0 n4 n3
        refine ⟨r3, _, _, _, _, rfl, upd_same, i1, i2, i3, i4, i5, i6, fun H8 h8 => ⟨true, rfl, iteF ?_⟩⟩
        have s8 := s7.trans ((same_new nr3).trans h8)
        -- smaller
        refine ⟨_, rfl, _, rfl, c, d, x, y, u, v, rfl, S1 s8, S2 s8, up bx, up by', up bu, up bv, ?_⟩
        refine ⟨_, rfl, _, _, _, _, _, rfl, .ty _, .base (.bl _), kit_ty (by decide +kernel), true, rfl, iteF ?_⟩
        refine ⟨_, rfl, _, rfl, _, rfl, _, _, rfl, rfl, m1, _, rfl, _, rfl, _, _, rfl, rfl, m2, _, _, rfl, rfl, rfl, _, rfl, ?_⟩
        refine iteNS rfl ?_
        -- over
        refine ⟨_, rfl, rfl, _, rfl, ite2 (fun hd => ?_) (fun hd => ?_)⟩
        · have e0 : u = 0 := V.int.inj (of_decide_eq_true hd)
          subst e0
          exact ⟨_, rfl, _, rfl, c, d, x, y, v, rfl, S1 s8, S2 s8, p1, up bx, up by', up bv, q _⟩
        · have hu0 : u ≠ 0 := fun z => hd (by rw [z]; rfl)
          have z1 : y * u ≠ 0 := fun z => by
            rcases Int.mul_eq_zero.mp z with h | h
            · omega
            · exact hu0 h
          refine ⟨_, rfl, _, rfl, c, d, x, y, u, v, rfl, S1 s8, S2 s8, p1, up bx, up by', up bu, up bv, fun z => absurd z hu0, fun _ r4 nr4 => ?_⟩
          refine ⟨_, rfl, _, rfl, _, _, rfl, rfl, m1, _, rfl, _, rfl, _, _, rfl, rfl, m5, ?_⟩
          obtain ⟨i1, i2, i3, i4, i5, i6⟩ := is_fact z1 (Nat.lt_of_lt_of_le n1 (Nat.pow_le_pow_right (by decide) (by decide))) n5
          exact ⟨r4, _, _, _, _, rfl, upd_same, i1, i2, i3, i4, i5, i6, fun H9 _ => q H9⟩
theorem all_mk {l : PySem.W.OpenLaw} {w : World} {K : PySem.W.Frag} {h : Heap} {mg : Str → Option Value} {fa C_MeadError C_NoFraction f_lowest f_plus f_less f_times f_over f_smaller f__law_flow f__law_whole f__law_low f__law_part f__law_refused f__law_is f_law : Addr} (X : K.In h) (G : h.Ns mainGlobals mg) (hfa : mg "law" = some (.ref fa))
    {od_lowest an_lowest : Option Addr} {sl_lowest : Array (Option Value)} {oc_lowest kV_lowest dc_lowest pm_lowest cd_lowest ct_lowest : Value}
    {od_plus an_plus : Option Addr} {sl_plus : Array (Option Value)} {oc_plus kV_plus dc_plus pm_plus cd_plus ct_plus : Value}
    {od_less an_less : Option Addr} {sl_less : Array (Option Value)} {oc_less kV_less dc_less pm_less cd_less ct_less : Value}
    {od_times an_times : Option Addr} {sl_times : Array (Option Value)} {oc_times kV_times dc_times pm_times cd_times ct_times : Value}
    {od_over an_over : Option Addr} {sl_over : Array (Option Value)} {oc_over kV_over dc_over pm_over cd_over ct_over : Value}
    {od_smaller an_smaller : Option Addr} {sl_smaller : Array (Option Value)} {oc_smaller kV_smaller dc_smaller pm_smaller cd_smaller ct_smaller : Value}
    {od__law_flow an__law_flow : Option Addr} {sl__law_flow : Array (Option Value)} {oc__law_flow kV__law_flow dc__law_flow pm__law_flow cd__law_flow ct__law_flow : Value}
    {od__law_whole an__law_whole : Option Addr} {sl__law_whole : Array (Option Value)} {oc__law_whole kV__law_whole dc__law_whole pm__law_whole cd__law_whole ct__law_whole : Value}
    {od__law_low an__law_low : Option Addr} {sl__law_low : Array (Option Value)} {oc__law_low kV__law_low dc__law_low pm__law_low cd__law_low ct__law_low : Value}
    {od__law_part an__law_part : Option Addr} {sl__law_part : Array (Option Value)} {oc__law_part kV__law_part dc__law_part pm__law_part cd__law_part ct__law_part : Value}
    {od__law_refused an__law_refused : Option Addr} {sl__law_refused : Array (Option Value)} {oc__law_refused kV__law_refused dc__law_refused pm__law_refused cd__law_refused ct__law_refused : Value}
    {od__law_is an__law_is : Option Addr} {sl__law_is : Array (Option Value)} {oc__law_is kV__law_is dc__law_is pm__law_is cd__law_is ct__law_is : Value}
    {od_law an_law : Option Addr} {sl_law : Array (Option Value)} {oc_law kV_law dc_law pm_law cd_law ct_law : Value}
    (q1_MeadError : PySem.W.nsIn K mainGlobals "MeadError" = some (some (.ref C_MeadError)))
    (q2_MeadError : PySem.W.excIn K C_MeadError [.type "ValueError", .type "Exception", .type "BaseException", .type "object"] "ValueError.__new__" = true)
    (q3_MeadError : PySem.W.keepIn K (.ref C_MeadError) = true)
    (q4_MeadError : PySem.W.subIn K (.ref C_MeadError) (.type "BaseException") = some true)
    (q5_MeadError : PySem.W.typeIn K (.ref C_MeadError) = some (.type "type"))
    (e1_MeadError : PySem.W.findIn K (.ref C_MeadError) "__getattribute__" = some (some (.builtin "BaseException.__getattribute__")))
    (e2_MeadError : PySem.W.findIn K (.ref C_MeadError) "__getattr__" = some none)
    (e3_MeadError : PySem.W.hasDictIn K C_MeadError = true)
    (e4_MeadError : PySem.W.findIn K (.ref C_MeadError) "__class__" = some (some (.builtin "object.__class__")))
    (e5_MeadError : PySem.W.specialIn K (.builtin "object.__class__") "__get__" = some (some (.builtin "getset_descriptor.__get__")))
    (e6_MeadError : PySem.W.takesIn K (.builtin "object.__class__") = some true)
    (e7_MeadError : PySem.W.mroIn K C_MeadError (.type "object") = some true)
    (q1_NoFraction : PySem.W.nsIn K mainGlobals "NoFraction" = some (some (.ref C_NoFraction)))
    (q2_NoFraction : PySem.W.excIn K C_NoFraction [.type "ValueError", .type "Exception", .type "BaseException", .type "object"] "ValueError.__new__" = true)
    (q3_NoFraction : PySem.W.keepIn K (.ref C_NoFraction) = true)
    (q4_NoFraction : PySem.W.subIn K (.ref C_NoFraction) (.type "BaseException") = some true)
    (q5_NoFraction : PySem.W.typeIn K (.ref C_NoFraction) = some (.type "type"))
    (e1_NoFraction : PySem.W.findIn K (.ref C_NoFraction) "__getattribute__" = some (some (.builtin "BaseException.__getattribute__")))
    (e2_NoFraction : PySem.W.findIn K (.ref C_NoFraction) "__getattr__" = some none)
    (e3_NoFraction : PySem.W.hasDictIn K C_NoFraction = true)
    (e4_NoFraction : PySem.W.findIn K (.ref C_NoFraction) "__class__" = some (some (.builtin "object.__class__")))
    (e5_NoFraction : PySem.W.specialIn K (.builtin "object.__class__") "__get__" = some (some (.builtin "getset_descriptor.__get__")))
    (e6_NoFraction : PySem.W.takesIn K (.builtin "object.__class__") = some true)
    (e7_NoFraction : PySem.W.mroIn K C_NoFraction (.type "object") = some true)
    (s_NoFraction_MeadError : PySem.W.subIn K (.ref C_NoFraction) (.ref C_MeadError) = some true)
    (t_NoFraction_NoFraction : PySem.W.kitOne K (.ref C_NoFraction) (.ref C_NoFraction) = some true)
    (a_lowest : PySem.W.nsIn K mainGlobals "lowest" = some (some (.ref f_lowest)))
    (l_lowest : K.lookup f_lowest = some ⟨oc_lowest, od_lowest, .func (PySem.W.fnOf "lowest" "lowest" (defArgs s_lowest) (defBody s_lowest) (defScope s_lowest) .none kV_lowest dc_lowest pm_lowest an_lowest cd_lowest ct_lowest), sl_lowest⟩)
    (c_lowest : PySem.W.codeIn K cd_lowest "lowest" = true)
    (k_lowest : PySem.W.keepIn K (.ref f_lowest) = true)
    (a_plus : PySem.W.nsIn K mainGlobals "plus" = some (some (.ref f_plus)))
    (l_plus : K.lookup f_plus = some ⟨oc_plus, od_plus, .func (PySem.W.fnOf "plus" "plus" (defArgs s_plus) (defBody s_plus) (defScope s_plus) .none kV_plus dc_plus pm_plus an_plus cd_plus ct_plus), sl_plus⟩)
    (c_plus : PySem.W.codeIn K cd_plus "plus" = true)
    (k_plus : PySem.W.keepIn K (.ref f_plus) = true)
    (a_less : PySem.W.nsIn K mainGlobals "less" = some (some (.ref f_less)))
    (l_less : K.lookup f_less = some ⟨oc_less, od_less, .func (PySem.W.fnOf "less" "less" (defArgs s_less) (defBody s_less) (defScope s_less) .none kV_less dc_less pm_less an_less cd_less ct_less), sl_less⟩)
    (c_less : PySem.W.codeIn K cd_less "less" = true)
    (k_less : PySem.W.keepIn K (.ref f_less) = true)
    (a_times : PySem.W.nsIn K mainGlobals "times" = some (some (.ref f_times)))
    (l_times : K.lookup f_times = some ⟨oc_times, od_times, .func (PySem.W.fnOf "times" "times" (defArgs s_times) (defBody s_times) (defScope s_times) .none kV_times dc_times pm_times an_times cd_times ct_times), sl_times⟩)
    (c_times : PySem.W.codeIn K cd_times "times" = true)
    (k_times : PySem.W.keepIn K (.ref f_times) = true)
    (a_over : PySem.W.nsIn K mainGlobals "over" = some (some (.ref f_over)))
    (l_over : K.lookup f_over = some ⟨oc_over, od_over, .func (PySem.W.fnOf "over" "over" (defArgs s_over) (defBody s_over) (defScope s_over) .none kV_over dc_over pm_over an_over cd_over ct_over), sl_over⟩)
    (c_over : PySem.W.codeIn K cd_over "over" = true)
    (k_over : PySem.W.keepIn K (.ref f_over) = true)
    (a_smaller : PySem.W.nsIn K mainGlobals "smaller" = some (some (.ref f_smaller)))
    (l_smaller : K.lookup f_smaller = some ⟨oc_smaller, od_smaller, .func (PySem.W.fnOf "smaller" "smaller" (defArgs s_smaller) (defBody s_smaller) (defScope s_smaller) .none kV_smaller dc_smaller pm_smaller an_smaller cd_smaller ct_smaller), sl_smaller⟩)
    (c_smaller : PySem.W.codeIn K cd_smaller "smaller" = true)
    (k_smaller : PySem.W.keepIn K (.ref f_smaller) = true)
    (a__law_flow : PySem.W.nsIn K mainGlobals "_law_flow" = some (some (.ref f__law_flow)))
    (l__law_flow : K.lookup f__law_flow = some ⟨oc__law_flow, od__law_flow, .func (PySem.W.fnOf "_law_flow" "_law_flow" (defArgs s__law_flow) (defBody s__law_flow) (defScope s__law_flow) .none kV__law_flow dc__law_flow pm__law_flow an__law_flow cd__law_flow ct__law_flow), sl__law_flow⟩)
    (c__law_flow : PySem.W.codeIn K cd__law_flow "_law_flow" = true)
    (k__law_flow : PySem.W.keepIn K (.ref f__law_flow) = true)
    (a__law_whole : PySem.W.nsIn K mainGlobals "_law_whole" = some (some (.ref f__law_whole)))
    (l__law_whole : K.lookup f__law_whole = some ⟨oc__law_whole, od__law_whole, .func (PySem.W.fnOf "_law_whole" "_law_whole" (defArgs s__law_whole) (defBody s__law_whole) (defScope s__law_whole) .none kV__law_whole dc__law_whole pm__law_whole an__law_whole cd__law_whole ct__law_whole), sl__law_whole⟩)
    (c__law_whole : PySem.W.codeIn K cd__law_whole "_law_whole" = true)
    (k__law_whole : PySem.W.keepIn K (.ref f__law_whole) = true)
    (a__law_low : PySem.W.nsIn K mainGlobals "_law_low" = some (some (.ref f__law_low)))
    (l__law_low : K.lookup f__law_low = some ⟨oc__law_low, od__law_low, .func (PySem.W.fnOf "_law_low" "_law_low" (defArgs s__law_low) (defBody s__law_low) (defScope s__law_low) .none kV__law_low dc__law_low pm__law_low an__law_low cd__law_low ct__law_low), sl__law_low⟩)
    (c__law_low : PySem.W.codeIn K cd__law_low "_law_low" = true)
    (k__law_low : PySem.W.keepIn K (.ref f__law_low) = true)
    (a__law_part : PySem.W.nsIn K mainGlobals "_law_part" = some (some (.ref f__law_part)))
    (l__law_part : K.lookup f__law_part = some ⟨oc__law_part, od__law_part, .func (PySem.W.fnOf "_law_part" "_law_part" (defArgs s__law_part) (defBody s__law_part) (defScope s__law_part) .none kV__law_part dc__law_part pm__law_part an__law_part cd__law_part ct__law_part), sl__law_part⟩)
    (c__law_part : PySem.W.codeIn K cd__law_part "_law_part" = true)
    (k__law_part : PySem.W.keepIn K (.ref f__law_part) = true)
    (a__law_refused : PySem.W.nsIn K mainGlobals "_law_refused" = some (some (.ref f__law_refused)))
    (l__law_refused : K.lookup f__law_refused = some ⟨oc__law_refused, od__law_refused, .func (PySem.W.fnOf "_law_refused" "_law_refused" (defArgs s__law_refused) (defBody s__law_refused) (defScope s__law_refused) .none kV__law_refused dc__law_refused pm__law_refused an__law_refused cd__law_refused ct__law_refused), sl__law_refused⟩)
    (c__law_refused : PySem.W.codeIn K cd__law_refused "_law_refused" = true)
    (k__law_refused : PySem.W.keepIn K (.ref f__law_refused) = true)
    (a__law_is : PySem.W.nsIn K mainGlobals "_law_is" = some (some (.ref f__law_is)))
    (l__law_is : K.lookup f__law_is = some ⟨oc__law_is, od__law_is, .func (PySem.W.fnOf "_law_is" "_law_is" (defArgs s__law_is) (defBody s__law_is) (defScope s__law_is) .none kV__law_is dc__law_is pm__law_is an__law_is cd__law_is ct__law_is), sl__law_is⟩)
    (c__law_is : PySem.W.codeIn K cd__law_is "_law_is" = true)
    (k__law_is : PySem.W.keepIn K (.ref f__law_is) = true)
    (a_law : PySem.W.nsIn K mainGlobals "law" = some (some (.ref f_law)))
    (l_law : K.lookup f_law = some ⟨oc_law, od_law, .func (PySem.W.fnOf "law" "law" (defArgs s_law) (defBody s_law) (defScope s_law) .none kV_law dc_law pm_law an_law cd_law ct_law), sl_law⟩)
    (c_law : PySem.W.codeIn K cd_law "law" = true)
    (k_law : PySem.W.keepIn K (.ref f_law) = true)
    (z_abs : PySem.W.nsIn K mainGlobals "abs" = some none)
    (z_bool : PySem.W.nsIn K mainGlobals "bool" = some none)
    (z_int : PySem.W.nsIn K mainGlobals "int" = some none)
    (z_isinstance : PySem.W.nsIn K mainGlobals "isinstance" = some none)
    (z_len : PySem.W.nsIn K mainGlobals "len" = some none)
    (z_range : PySem.W.nsIn K mainGlobals "range" = some none)
    (z_tuple : PySem.W.nsIn K mainGlobals "tuple" = some none)
    (z_gcd : PySem.W.nsIn K mainGlobals "gcd" = some (some (.builtin "math.gcd")))
    : ∃ fd : FuncData, (∀ (s : Shared) (v : Value), BindsTo s fd ⟨[v], []⟩ [("_law_script", v)]) ∧ ∀ base : Heap, K.In base → base.Ns mainGlobals mg → FnOk l.prog w K mg base CX0 4 fa fd ["_law_script"] (sp_law K) := by
  have e := hfa.symm.trans (PySem.W.mg_of X G a_law)
  cases e
  have F_lowest := fun_mk (st := s_lowest) l_lowest c_lowest k_lowest
  have F_plus := fun_mk (st := s_plus) l_plus c_plus k_plus
  have F_less := fun_mk (st := s_less) l_less c_less k_less
  have F_times := fun_mk (st := s_times) l_times c_times k_times
  have F_over := fun_mk (st := s_over) l_over c_over k_over
  have F_smaller := fun_mk (st := s_smaller) l_smaller c_smaller k_smaller
  have F__law_flow := fun_mk (st := s__law_flow) l__law_flow c__law_flow k__law_flow
  have F__law_whole := fun_mk (st := s__law_whole) l__law_whole c__law_whole k__law_whole
  have F__law_low := fun_mk (st := s__law_low) l__law_low c__law_low k__law_low
  have F__law_part := fun_mk (st := s__law_part) l__law_part c__law_part k__law_part
  have F__law_refused := fun_mk (st := s__law_refused) l__law_refused c__law_refused k__law_refused
  have F__law_is := fun_mk (st := s__law_is) l__law_is c__law_is k__law_is
  have F_law := fun_mk (st := s_law) l_law c_law k_law
  let T : Env K mg := { C_MeadError := C_MeadError, c_MeadError := PySem.W.mg_of X G q1_MeadError, x_MeadError := q2_MeadError, k_MeadError := q3_MeadError, bs_MeadError := q4_MeadError, ty_MeadError := q5_MeadError, e_MeadError := ⟨e1_MeadError, e2_MeadError, q4_MeadError, e3_MeadError, e4_MeadError, e5_MeadError, e6_MeadError, e7_MeadError⟩, C_NoFraction := C_NoFraction, c_NoFraction := PySem.W.mg_of X G q1_NoFraction, x_NoFraction := q2_NoFraction, k_NoFraction := q3_NoFraction, bs_NoFraction := q4_NoFraction, ty_NoFraction := q5_NoFraction, e_NoFraction := ⟨e1_NoFraction, e2_NoFraction, q4_NoFraction, e3_NoFraction, e4_NoFraction, e5_NoFraction, e6_NoFraction, e7_NoFraction⟩, sub_NoFraction_MeadError := s_NoFraction_MeadError, kit_NoFraction_NoFraction := t_NoFraction_NoFraction, a_lowest := _, fd_lowest := _, F_lowest := F_lowest, g_lowest := PySem.W.mg_of X G a_lowest, b_lowest := F_lowest.binds (ps := ["top", "bottom"]) fun _ _ _ _ _ _ us hl => match us, hl with | [_, _], _ => rfl, a_plus := _, fd_plus := _, F_plus := F_plus, g_plus := PySem.W.mg_of X G a_plus, b_plus := F_plus.binds (ps := ["one", "other"]) fun _ _ _ _ _ _ us hl => match us, hl with | [_, _], _ => rfl, a_less := _, fd_less := _, F_less := F_less, g_less := PySem.W.mg_of X G a_less, b_less := F_less.binds (ps := ["one", "other"]) fun _ _ _ _ _ _ us hl => match us, hl with | [_, _], _ => rfl, a_times := _, fd_times := _, F_times := F_times, g_times := PySem.W.mg_of X G a_times, b_times := F_times.binds (ps := ["one", "other"]) fun _ _ _ _ _ _ us hl => match us, hl with | [_, _], _ => rfl, a_over := _, fd_over := _, F_over := F_over, g_over := PySem.W.mg_of X G a_over, b_over := F_over.binds (ps := ["one", "other"]) fun _ _ _ _ _ _ us hl => match us, hl with | [_, _], _ => rfl, a_smaller := _, fd_smaller := _, F_smaller := F_smaller, g_smaller := PySem.W.mg_of X G a_smaller, b_smaller := F_smaller.binds (ps := ["one", "other"]) fun _ _ _ _ _ _ us hl => match us, hl with | [_, _], _ => rfl, a__law_flow := _, fd__law_flow := _, F__law_flow := F__law_flow, g__law_flow := PySem.W.mg_of X G a__law_flow, b__law_flow := F__law_flow.binds (ps := ["_law_script", "_law_many"]) fun _ _ _ _ _ _ us hl => match us, hl with | [_, _], _ => rfl, a__law_whole := _, fd__law_whole := _, F__law_whole := F__law_whole, g__law_whole := PySem.W.mg_of X G a__law_whole, b__law_whole := F__law_whole.binds (ps := ["_law_found"]) fun _ _ _ _ _ _ us hl => match us, hl with | [_], _ => rfl, a__law_low := _, fd__law_low := _, F__law_low := F__law_low, g__law_low := PySem.W.mg_of X G a__law_low, b__law_low := F__law_low.binds (ps := ["_law_top", "_law_bottom"]) fun _ _ _ _ _ _ us hl => match us, hl with | [_, _], _ => rfl, a__law_part := _, fd__law_part := _, F__law_part := F__law_part, g__law_part := PySem.W.mg_of X G a__law_part, b__law_part := F__law_part.binds (ps := ["_law_found"]) fun _ _ _ _ _ _ us hl => match us, hl with | [_], _ => rfl, a__law_refused := _, fd__law_refused := _, F__law_refused := F__law_refused, g__law_refused := PySem.W.mg_of X G a__law_refused, b__law_refused := F__law_refused.binds (ps := ["_law_one", "_law_other"]) fun _ _ _ _ _ _ us hl => match us, hl with | [_, _], _ => rfl, a__law_is := _, fd__law_is := _, F__law_is := F__law_is, g__law_is := PySem.W.mg_of X G a__law_is, b__law_is := F__law_is.binds (ps := ["_law_found", "_law_top", "_law_bottom"]) fun _ _ _ _ _ _ us hl => match us, hl with | [_, _, _], _ => rfl, a_law := _, fd_law := _, F_law := F_law, g_law := PySem.W.mg_of X G a_law, b_law := F_law.binds (ps := ["_law_script"]) fun _ _ _ _ _ _ us hl => match us, hl with | [_], _ => rfl, m_abs := PySem.W.mg_none_of X G z_abs, m_bool := PySem.W.mg_none_of X G z_bool, m_int := PySem.W.mg_none_of X G z_int, m_isinstance := PySem.W.mg_none_of X G z_isinstance, m_len := PySem.W.mg_none_of X G z_len, m_range := PySem.W.mg_none_of X G z_range, m_tuple := PySem.W.mg_none_of X G z_tuple, m_gcd := PySem.W.mg_of X G z_gcd }
  exact ⟨PySem.W.fnOf "law" "law" (defArgs s_law) (defBody s_law) (defScope s_law) .none kV_law dc_law pm_law an_law cd_law ct_law, fun s v => .of_eq rfl, fun base _ _ => ok_law T⟩
end
end My
open PySem PySem.W PyProof.Rows
set_option maxRecDepth 100000 in
set_option maxHeartbeats 0 in
theorem PySem.Challenge.cw_postmead_k02_fractions_reckoned_holds : PySem.Challenge.rw_postmead_k02_fractions_reckoned.Holds := by
  w_on; o_law; k_head; (case hw => w_witness2)
  k_fill
  refine L2.walk_of (l := PySem.Challenge.rw_postmead_k02_fractions_reckoned) (n := 63) (k := 4) (x := "_law_script") (CX := fun _ => L2.CX0) (sp := fun w => My.sp_law _) rfl (by decide) rfl ⟨rfl, by decide, by decide⟩ (fun w h Y => PySem.W.kIn_of Y) ?F (fun _ _ a ns hl _ hS => ⟨a, ns, rfl, hS, hl, fun _ => rfl⟩) (fun _ _ _ _ _ h => h)
  case F =>
    intro w mg fa h KX G hmg
    refine' My.all_mk KX G hmg ?q1_MeadError ?q2_MeadError ?q3_MeadError ?q4_MeadError ?q5_MeadError ?e1_MeadError ?e2_MeadError ?e3_MeadError ?e4_MeadError ?e5_MeadError ?e6_MeadError ?e7_MeadError ?q1_NoFraction ?q2_NoFraction ?q3_NoFraction ?q4_NoFraction ?q5_NoFraction ?e1_NoFraction ?e2_NoFraction ?e3_NoFraction ?e4_NoFraction ?e5_NoFraction ?e6_NoFraction ?e7_NoFraction ?s_NoFraction_MeadError ?t_NoFraction_NoFraction ?a_lowest ?l_lowest ?c_lowest ?k_lowest ?a_plus ?l_plus ?c_plus ?k_plus ?a_less ?l_less ?c_less ?k_less ?a_times ?l_times ?c_times ?k_times ?a_over ?l_over ?c_over ?k_over ?a_smaller ?l_smaller ?c_smaller ?k_smaller ?a__law_flow ?l__law_flow ?c__law_flow ?k__law_flow ?a__law_whole ?l__law_whole ?c__law_whole ?k__law_whole ?a__law_low ?l__law_low ?c__law_low ?k__law_low ?a__law_part ?l__law_part ?c__law_part ?k__law_part ?a__law_refused ?l__law_refused ?c__law_refused ?k__law_refused ?a__law_is ?l__law_is ?c__law_is ?k__law_is ?a_law ?l_law ?c_law ?k_law ?z_abs ?z_bool ?z_int ?z_isinstance ?z_len ?z_range ?z_tuple ?z_gcd
    (case q1_MeadError => k_is)
    (case q2_MeadError => k_exc)
    (case q3_MeadError => k_is)
    (case q4_MeadError => k_is)
    (case q5_MeadError => k_is)
    (case e1_MeadError => k_is)
    (case e2_MeadError => k_is)
    (case e3_MeadError => k_is)
    (case e4_MeadError => k_is)
    (case e5_MeadError => k_is)
    (case e6_MeadError => k_is)
    (case e7_MeadError => k_is)
    (case q1_NoFraction => k_is)
    (case q2_NoFraction => k_exc)
    (case q3_NoFraction => k_is)
    (case q4_NoFraction => k_is)
    (case q5_NoFraction => k_is)
    (case e1_NoFraction => k_is)
    (case e2_NoFraction => k_is)
    (case e3_NoFraction => k_is)
    (case e4_NoFraction => k_is)
    (case e5_NoFraction => k_is)
    (case e6_NoFraction => k_is)
    (case e7_NoFraction => k_is)
    (case s_NoFraction_MeadError => first | rfl | k_is)
    (case t_NoFraction_NoFraction => first | k_is | rfl)
    (case a_lowest => k_is)
    (case l_lowest => k_is)
    (case c_lowest => k_is)
    (case k_lowest => k_is)
    (case a_plus => k_is)
    (case l_plus => k_is)
    (case c_plus => k_is)
    (case k_plus => k_is)
    (case a_less => k_is)
    (case l_less => k_is)
    (case c_less => k_is)
    (case k_less => k_is)
    (case a_times => k_is)
    (case l_times => k_is)
    (case c_times => k_is)
    (case k_times => k_is)
    (case a_over => k_is)
    (case l_over => k_is)
    (case c_over => k_is)
    (case k_over => k_is)
    (case a_smaller => k_is)
    (case l_smaller => k_is)
    (case c_smaller => k_is)
    (case k_smaller => k_is)
    (case a__law_flow => k_is)
    (case l__law_flow => k_is)
    (case c__law_flow => k_is)
    (case k__law_flow => k_is)
    (case a__law_whole => k_is)
    (case l__law_whole => k_is)
    (case c__law_whole => k_is)
    (case k__law_whole => k_is)
    (case a__law_low => k_is)
    (case l__law_low => k_is)
    (case c__law_low => k_is)
    (case k__law_low => k_is)
    (case a__law_part => k_is)
    (case l__law_part => k_is)
    (case c__law_part => k_is)
    (case k__law_part => k_is)
    (case a__law_refused => k_is)
    (case l__law_refused => k_is)
    (case c__law_refused => k_is)
    (case k__law_refused => k_is)
    (case a__law_is => k_is)
    (case l__law_is => k_is)
    (case c__law_is => k_is)
    (case k__law_is => k_is)
    (case a_law => k_is)
    (case l_law => k_is)
    (case c_law => k_is)
    (case k_law => k_is)
    (case z_abs => k_is)
    (case z_bool => k_is)
    (case z_int => k_is)
    (case z_isinstance => k_is)
    (case z_len => k_is)
    (case z_range => k_is)
    (case z_tuple => k_is)
    (case z_gcd => k_is)
#print axioms PySem.Challenge.cw_postmead_k02_fractions_reckoned_holds
