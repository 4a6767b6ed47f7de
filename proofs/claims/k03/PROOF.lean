import PyProof.Rows.All
import Wide.All
import OpenK.AllK
import Wide.FinOn
import HandS.ForMost
import HandS.ForExc
import HandS.Wide
import HandS.Gcd
import HandS.IsInst
import HandS.ExcIs
import HandS.Codes
import HandS.StrMore
import HandS.FStr
import KE.IntTextText
import PyProof.StrLawsAffix
import PyProof.Rows.StrJoinRep
import PySem.Challenge.RW_postmead_k03_fractions_written
set_option Elab.async false
set_option linter.all false
set_option maxRecDepth 100000
set_option maxHeartbeats 4000000
namespace My
open PySem PySem.Spec PyProof.Rows L2
/-! ### readings: small steps -/
local macro_rules | `(tactic| walk_at "rd") => `(tactic| repeat (first
  | refine ⟨_, rfl, ?_⟩
  | refine ⟨_, _, rfl, rfl, ?_⟩
  | refine ⟨.inr ⟨by decide, by decide⟩, ?_⟩
  | refine ⟨by decide, ?_⟩))
theorem op_fdivX {X : Cx} : OpR X (binaryOp .FloorDiv) (rI (fun _ j => j ≠ 0 ∧ j.natAbs.log2 < 9000) fun i j => .int (i.fdiv j)) :=
  opI fun _ _ _ _ _ _ _ hc q => floordiv_int hc.1 q (.inl (PyProof.noPylong_of_log2 hc.2))
theorem op_mulU {X : Cx} : OpR X (binaryOp .Mult) (rI IntMulOk fun i j => .int (i * j)) := opI fun _ _ _ _ _ _ _ hc q => mul_int q hc
theorem mulL {i j : Int} (h0 : -(2 ^ 64) < i) (h1 : i < 2 ^ 64) : IntMulOk i j := CMul.ok (.inl ⟨h0, h1⟩)
theorem mulR {i j : Int} (h0 : -(2 ^ 64) < j) (h1 : j < 2 ^ 64) : IntMulOk i j := CMul.ok (.inr ⟨h0, h1⟩)
theorem nd {p : Prop} [Decidable p] (h : ¬ decide p = true) : ¬ p := fun hp => h (decide_eq_true hp)
theorem zc_of {cls : Value} {d : Option Addr} {C : Addr} {oe : Obj} (h : Zc cls d oe) (e : cls = .ref C ∧ d = none) : Zc (.ref C) none oe := by
  obtain ⟨e1, e2⟩ := e
  rw [← e1, ← e2]
  exact h
theorem same_new {H : Hp} {p : Addr} {o : HO} (h : H p = none) : Same H (upd H p o) := fun b x e => by
  rw [upd_ne (ne_of_none e h)]
  exact e
theorem same_put {H H' : Hp} {p : Addr} {o : HO} (s : Same H H') (h : H p = none) : Same H (upd H' p o) := fun b x e => by
  rw [upd_ne (ne_of_none e h)]
  exact s _ _ e
theorem log_small {n b : Nat} (h0 : 0 < b) (h : n < 2 ^ b) (h9 : b ≤ 9000) : n.log2 < 9000 := Nat.lt_of_lt_of_le (PySem.Flt.log2_lt_of h0 h) h9
theorem pss_guard {X : Cx} {b : List Stmt} {t : TS} {P : Prop} (h : P → PSs X b t) : PSs X b (fun D σ H => P ∧ t D σ H) :=
  ⟨fun pins s σ H D I q => (h q.1).run pins s σ H D I q.2⟩
def topS (i : Nat) : Stmt := PySem.Challenge.pw_postmead_k03_fractions_written.main.body.getD i (.Pass ⟨0, 0, 0, 0⟩)
abbrev s_whole_read : Stmt := topS 6
theorem sc_whole_read : FnScope ["word", "figures"] ["word"] (defScope s_whole_read) := ⟨rfl, rfl, rfl, by decide +kernel, rfl, by decide +kernel, by decide +kernel⟩
abbrev s_is_part : Stmt := topS 8
theorem sc_is_part : FnScope ["one"] ["one"] (defScope s_is_part) := ⟨rfl, rfl, rfl, by decide +kernel, rfl, by decide +kernel, by decide +kernel⟩
abbrev s_part_text : Stmt := topS 9
theorem sc_part_text : FnScope ["one"] ["one"] (defScope s_part_text) := ⟨rfl, rfl, rfl, by decide +kernel, rfl, by decide +kernel, by decide +kernel⟩
abbrev s_part_read : Stmt := topS 10
theorem sc_part_read : FnScope ["line", "words", "top", "bottom"] ["line"] (defScope s_part_read) := ⟨rfl, rfl, rfl, by decide +kernel, rfl, by decide +kernel, by decide +kernel⟩
abbrev s__law_flow : Stmt := topS 12
theorem sc__law_flow : FnScope ["_law_script", "_law_many", "_law_great", "_law_row", "_law_k", "_law_cell", "_law_mixed"] ["_law_script", "_law_many"] (defScope s__law_flow) := ⟨rfl, rfl, rfl, by decide +kernel, rfl, by decide +kernel, by decide +kernel⟩
abbrev s__law_whole : Stmt := topS 13
theorem sc__law_whole : FnScope ["_law_found"] ["_law_found"] (defScope s__law_whole) := ⟨rfl, rfl, rfl, by decide +kernel, rfl, by decide +kernel, by decide +kernel⟩
abbrev s__law_low : Stmt := topS 14
theorem sc__law_low : FnScope ["_law_top", "_law_bottom", "_law_one", "_law_other"] ["_law_top", "_law_bottom"] (defScope s__law_low) := ⟨rfl, rfl, rfl, by decide +kernel, rfl, by decide +kernel, by decide +kernel⟩
abbrev s__law_part : Stmt := topS 15
theorem sc__law_part : FnScope ["_law_found"] ["_law_found"] (defScope s__law_part) := ⟨rfl, rfl, rfl, by decide +kernel, rfl, by decide +kernel, by decide +kernel⟩
abbrev s__law_number : Stmt := topS 16
theorem sc__law_number : FnScope ["_law_word", "_law_sign"] ["_law_word"] (defScope s__law_number) := ⟨rfl, rfl, rfl, by decide +kernel, rfl, by decide +kernel, by decide +kernel⟩
abbrev s__law_due : Stmt := topS 17
theorem sc__law_due : FnScope ["_law_line", "_law_rest", "_law_words", "_law_top", "_law_bottom"] ["_law_line"] (defScope s__law_due) := ⟨rfl, rfl, rfl, by decide +kernel, rfl, by decide +kernel, by decide +kernel⟩
abbrev s__law_odd : Stmt := topS 18
theorem sc__law_odd : FnScope ["_law_one", "_law_some"] ["_law_one"] (defScope s__law_odd) := ⟨rfl, rfl, rfl, by decide +kernel, rfl, by decide +kernel, by decide +kernel⟩
abbrev s__law_spoilt : Stmt := topS 19
theorem sc__law_spoilt : FnScope ["_law_line", "_law_row", "_law_at", "_law_sign"] ["_law_line", "_law_row"] (defScope s__law_spoilt) := ⟨rfl, rfl, rfl, by decide +kernel, rfl, by decide +kernel, by decide +kernel⟩
abbrev s_law : Stmt := topS 20
theorem sc_law : FnScope ["_law_script", "_law_row", "_law_one", "_law_line", "_law_due_here", "_law_found", "e"] ["_law_script"] (defScope s_law) := ⟨rfl, rfl, rfl, by decide +kernel, rfl, by decide +kernel, by decide +kernel⟩
structure Env (K : PySem.W.Frag) (mg : Str → Option Value) where
  C_MeadError : Addr
  c_MeadError : mg "MeadError" = some (.ref C_MeadError)
  x_MeadError : PySem.W.excIn K C_MeadError [.type "ValueError", .type "Exception", .type "BaseException", .type "object"] "ValueError.__new__" = true
  k_MeadError : PySem.W.keepIn K (.ref C_MeadError) = true
  bs_MeadError : PySem.W.subIn K (.ref C_MeadError) (.type "BaseException") = some true
  ty_MeadError : PySem.W.typeIn K (.ref C_MeadError) = some (.type "type")
  e_MeadError : ExcC K C_MeadError
  C_NoFraction : Addr
  c_NoFraction : mg "NoFraction" = some (.ref C_NoFraction)
  x_NoFraction : PySem.W.excIn K C_NoFraction [.type "ValueError", .type "Exception", .type "BaseException", .type "object"] "ValueError.__new__" = true
  k_NoFraction : PySem.W.keepIn K (.ref C_NoFraction) = true
  bs_NoFraction : PySem.W.subIn K (.ref C_NoFraction) (.type "BaseException") = some true
  ty_NoFraction : PySem.W.typeIn K (.ref C_NoFraction) = some (.type "type")
  e_NoFraction : ExcC K C_NoFraction
  sub_NoFraction_MeadError : PySem.W.subIn K (.ref C_NoFraction) (.ref C_MeadError) = some true
  kit_NoFraction_NoFraction : PySem.W.kitOne K (.ref C_NoFraction) (.ref C_NoFraction) = some true
  a_whole_read : Addr
  fd_whole_read : FuncData
  F_whole_read : Fun K "whole_read" "whole_read" s_whole_read a_whole_read fd_whole_read
  g_whole_read : mg "whole_read" = some (.ref a_whole_read)
  b_whole_read : Binds K fd_whole_read ["word"] []
  a_is_part : Addr
  fd_is_part : FuncData
  F_is_part : Fun K "is_part" "is_part" s_is_part a_is_part fd_is_part
  g_is_part : mg "is_part" = some (.ref a_is_part)
  b_is_part : Binds K fd_is_part ["one"] []
  a_part_text : Addr
  fd_part_text : FuncData
  F_part_text : Fun K "part_text" "part_text" s_part_text a_part_text fd_part_text
  g_part_text : mg "part_text" = some (.ref a_part_text)
  b_part_text : Binds K fd_part_text ["one"] []
  a_part_read : Addr
  fd_part_read : FuncData
  F_part_read : Fun K "part_read" "part_read" s_part_read a_part_read fd_part_read
  g_part_read : mg "part_read" = some (.ref a_part_read)
  b_part_read : Binds K fd_part_read ["line"] []
  a__law_flow : Addr
  fd__law_flow : FuncData
  F__law_flow : Fun K "_law_flow" "_law_flow" s__law_flow a__law_flow fd__law_flow
  g__law_flow : mg "_law_flow" = some (.ref a__law_flow)
  b__law_flow : Binds K fd__law_flow ["_law_script", "_law_many"] []
  a__law_whole : Addr
  fd__law_whole : FuncData
  F__law_whole : Fun K "_law_whole" "_law_whole" s__law_whole a__law_whole fd__law_whole
  g__law_whole : mg "_law_whole" = some (.ref a__law_whole)
  b__law_whole : Binds K fd__law_whole ["_law_found"] []
  a__law_low : Addr
  fd__law_low : FuncData
  F__law_low : Fun K "_law_low" "_law_low" s__law_low a__law_low fd__law_low
  g__law_low : mg "_law_low" = some (.ref a__law_low)
  b__law_low : Binds K fd__law_low ["_law_top", "_law_bottom"] []
  a__law_part : Addr
  fd__law_part : FuncData
  F__law_part : Fun K "_law_part" "_law_part" s__law_part a__law_part fd__law_part
  g__law_part : mg "_law_part" = some (.ref a__law_part)
  b__law_part : Binds K fd__law_part ["_law_found"] []
  a__law_number : Addr
  fd__law_number : FuncData
  F__law_number : Fun K "_law_number" "_law_number" s__law_number a__law_number fd__law_number
  g__law_number : mg "_law_number" = some (.ref a__law_number)
  b__law_number : Binds K fd__law_number ["_law_word"] []
  a__law_due : Addr
  fd__law_due : FuncData
  F__law_due : Fun K "_law_due" "_law_due" s__law_due a__law_due fd__law_due
  g__law_due : mg "_law_due" = some (.ref a__law_due)
  b__law_due : Binds K fd__law_due ["_law_line"] []
  a__law_odd : Addr
  fd__law_odd : FuncData
  F__law_odd : Fun K "_law_odd" "_law_odd" s__law_odd a__law_odd fd__law_odd
  g__law_odd : mg "_law_odd" = some (.ref a__law_odd)
  b__law_odd : Binds K fd__law_odd ["_law_one"] []
  a__law_spoilt : Addr
  fd__law_spoilt : FuncData
  F__law_spoilt : Fun K "_law_spoilt" "_law_spoilt" s__law_spoilt a__law_spoilt fd__law_spoilt
  g__law_spoilt : mg "_law_spoilt" = some (.ref a__law_spoilt)
  b__law_spoilt : Binds K fd__law_spoilt ["_law_line", "_law_row"] []
  a_law : Addr
  fd_law : FuncData
  F_law : Fun K "law" "law" s_law a_law fd_law
  g_law : mg "law" = some (.ref a_law)
  b_law : Binds K fd_law ["_law_script"] []
  m_abs : mg "abs" = none
  m_bool : mg "bool" = none
  m_int : mg "int" = none
  m_isinstance : mg "isinstance" = none
  m_len : mg "len" = none
  m_range : mg "range" = none
  m_str : mg "str" = none
  m_tuple : mg "tuple" = none
  tk_MOST_FIGURES : Tok
  m_MOST_FIGURES : mg "MOST_FIGURES" = some (.int 400 tk_MOST_FIGURES)
  m_gcd : mg "gcd" = some (.builtin "math.gcd")
section
variable {P : Program} {w : World} {K : PySem.W.Frag} {mg : Str → Option Value} {base : Heap}

/-! ### the row of numbers that the script makes -/
def rowOk (rs : List Int) : Prop := ∀ v ∈ rs, 0 ≤ v ∧ v < 1000000
theorem rowOk_nil : rowOk [] := fun _ h => by cases h
theorem rowOk_add {rs : List Int} {v : Int} (h : rowOk rs) (h0 : 0 ≤ v) (h1 : v < 1000000) : rowOk (rs ++ [v]) := fun x hx => by
  rcases List.mem_append.mp hx with q | q
  · exact h x q
  · rw [List.mem_singleton.mp q]
    exact ⟨h0, h1⟩
def sp_flow (K : PySem.W.Frag) : Sp := fun vs H Q _ => ∃ (a : Addr) (ns : List Int) (m : Int), vs = [.ref a, .int m] ∧ SqL K H a (ns.map V.int) ∧ ns.length ≤ 63 ∧ 0 ≤ m ∧ m ≤ 1000 ∧
  ∀ H' p (rs : List Int), Same H H' → H p = none → rs.length = m.toNat → rowOk rs → H' p = some (.lst (rs.map V.int)) → Q (.ref p) H'
def flowInv (a : Addr) (m : Int) (p : Addr) (H : Hp) : Nat → L2.St → Hp → Prop := fun i σ H' => ∃ (g : Int) (rs : List Int) (k c x : Option V),
  σ = [some (.ref a), some (.int m), some (.int g), some (.ref p), k, c, x] ∧ Same H H' ∧ H' p = some (.lst (rs.map V.int)) ∧ rs.length = i ∧ rowOk rs
theorem mod_in (x : Int) : 0 ≤ x % 1000000 ∧ x % 1000000 < 1000000 := ⟨Int.emod_nonneg _ (by decide), Int.emod_lt_of_pos _ (by decide)⟩
theorem flow_turn {a p : Addr} {m g z : Int} {H H' : Hp} {i : Nat} {rs : List Int} {k c x : Option V} (hs : Same H H') (hp : H p = none) (hrl : rs.length = i) (hro : rowOk rs) :
    flowInv a m p H (i + 1) [some (.ref a), some (.int m), some (.int g), some (.ref p), k, c, x] (upd H' p (.lst (rs.map V.int ++ [V.int (z % 1000000)]))) := by
  refine ⟨g, rs ++ [z % 1000000], k, c, x, rfl, same_put hs hp, ?_, by rw [List.length_append, hrl]; rfl, rowOk_add hro (mod_in z).1 (mod_in z).2⟩
  rw [upd_same, List.map_append]; rfl
theorem mod_at {ns : List Int} (h : 0 < ns.length) (k : Nat) : ∃ z, atI (ns.map V.int) ((k : Int) % (ns.length : Int)) = some (.int z) := by
  have hk : k % ns.length < ns.length := Nat.mod_lt _ h
  refine ⟨ns[k % ns.length], ?_⟩
  rw [← Int.natCast_emod]
  refine atI_nat ?_
  rw [List.getElem?_map, List.getElem?_eq_getElem hk]
  rfl
theorem ok__law_flow (T : Env K mg) : FnOk P w K mg base CX0 1 T.a__law_flow T.fd__law_flow ["_law_script", "_law_many"] (sp_flow K) := by
  refine T.F__law_flow.ok sc__law_flow (fun vs H Q E h => ?_) (fun cdv A outer s H vs Q E hr h => ?_)
  · obtain ⟨a, ns, m, rfl, _⟩ := h
    rfl
  · obtain ⟨a, ns, m, rfl, hS, hl, hm0, hm1, q⟩ := h
    refine ⟨_, (pss_cons (ps_set (i := 2) sc__law_flow.nd rfl (.inl rfl) pe_int)
 (C8.pss_cut (ps_if (PW.pt (pw_and (pt_cmpR op_gt (pe_callB call_len_seq (by rfl) T.m_len (by decide +kernel) (pa_cons (pv 0) pa_nil)) pe_int (nomark _)) (pw_and1 (pt_cmpR op_ge (pe_callB call_abs (by rfl) T.m_abs (by decide +kernel) (pa_cons (pe_ix ix_list (pv 0) pe_int (fun _ _ => rfl)) pa_nil)) (pe_op op_pow pe_int pe_int) (nomark _)))))
 (pss_one (ps_set (i := 2) sc__law_flow.nd rfl (.inl rfl) (pe_op op_sub (pe_callB call_abs (by rfl) T.m_abs (by decide +kernel) (pa_cons (pe_ix ix_list (pv 0) pe_int (fun _ _ => rfl)) pa_nil)) (pe_op op_pow pe_int pe_int))))
 pss_nil)
 (pss_cons (ps_set (i := 3) sc__law_flow.nd rfl (.inl rfl) (pe_lst pa_nil))
 (pss_cons (ps_for PassesOwn.never rfl (pi_range1 (by rfl) T.m_range (pa_cons (pv 1) pa_nil)) (pg_name (i := 4) sc__law_flow.nd rfl (.inl rfl))
 (pss_one (ps_if (pt_cmpR op_gt (pv 2) pe_int (nomark _))
 (pss_cons (ps_expr (pe_bm PySem.F.plainAttrs_list PySem.F.slot_list_append PySem.F.type_list_append mt_append (pv 3) (pa_cons (pe_op op_mod (pv 2) pe_int) pa_nil)))
 (pss_one (ps_set (i := 2) sc__law_flow.nd rfl (.inl rfl) (pe_op op_fdiv (pv 2) pe_int))))
 (pss_cons (ps_set (i := 5) sc__law_flow.nd rfl (.inl rfl) (pe_op op_add (pv 4) pe_int))
 (C8.pss_cut (ps_if (pt_cmpR op_gt (pe_callB call_len_seq (by rfl) T.m_len (by decide +kernel) (pa_cons (pv 0) pa_nil)) pe_int (nomark _))
 (pss_one (ps_set (i := 5) sc__law_flow.nd rfl (.inl rfl) (pe_ix ix_list (pv 0) (pe_op op_mod (pv 4) (pe_callB call_len_seq (by rfl) T.m_len (by decide +kernel) (pa_cons (pv 0) pa_nil))) (fun _ _ => rfl))))
 pss_nil)
 (pss_cons (ps_set (i := 6) sc__law_flow.nd rfl (.inl rfl) (pe_op op_mod (pe_op op_add (pe_op op_add (pe_op op_mulU (pv 5) pe_int) (pe_op op_mulU (pv 4) pe_int)) pe_int) pe_int))
 (pss_cons (ps_set (i := 6) sc__law_flow.nd rfl (.inl rfl) (pe_op op_mod (pe_op op_add (pe_op op_add (pe_op op_mulU (pv 6) pe_int) (pe_op op_mulU (pv 4) pe_int)) (pe_callB call_len_seq (by rfl) T.m_len (by decide +kernel) (pa_cons (pv 0) pa_nil))) pe_int))
 (pss_one (ps_expr (pe_bm PySem.F.plainAttrs_list PySem.F.slot_list_append PySem.F.type_list_append mt_append (pv 3) (pa_cons (pe_op op_mod (pe_op op_fdiv (pv 6) pe_int) pe_int) pa_nil)))))))))))
 (pss_one (ps_ret (pv 3))))))), ?_⟩
    have hlen : (ns.map V.int).length = ns.length := List.length_map _
    refine ⟨fun σ' H' => ∃ g : Int, σ' = [some (.ref a), some (.int m), some (.int g), none, none, none, none] ∧ H = H', ?_, ?_⟩
    · refine ⟨_, rfl, _, _, rfl, .inl hS, _, _, rfl, rfl, _, rfl, ite2 (fun hd => ?_) (fun _ => ⟨_, rfl, rfl⟩)⟩
      have h0 : 0 < ns.length := by
        have := of_decide_eq_true hd
        rw [hlen] at this
        omega
      obtain ⟨z, hz⟩ := mod_at h0 0
      have hz0 : atI (ns.map V.int) 0 = some (.int z) := by
        have e : ((0 : Nat) : Int) % (ns.length : Int) = 0 := by simp
        rw [e] at hz
        exact hz
      refine ⟨_, rfl, a, _, _, _, rfl, rfl, hS, hz0, _, rfl, _, _, rfl, rfl, ⟨by decide, by decide, by decide⟩, _, _, rfl, rfl, _, rfl, ?_⟩
      refine ite2 (fun _ => ?_) (fun _ => ⟨_, rfl, rfl⟩)
      exact ⟨_, rfl, a, _, _, _, rfl, rfl, hS, hz0, _, rfl, _, _, rfl, rfl, ⟨by decide, by decide, by decide⟩, _, _, rfl, rfl, _, rfl, rfl⟩
    · rintro _ _ ⟨g, rfl, rfl⟩
      refine ⟨Nat.zero_le _, fun p hp => ?_⟩
      refine ⟨_, rfl, m, rfl, by omega, by omega, for_range (lo := 0) (n := m.toNat) (flowInv a m p H) ⟨g, [], none, none, none, rfl, same_new hp, upd_same, rfl, rowOk_nil⟩ ?_ ?_⟩
      · rintro i σ H' hi ⟨g, rs, k, c, x, rfl, hs, hpl, hrl, hro⟩
        have hA := hs.seq hS
        have hsz : (rs.map V.int).length < sizeLine := by rw [List.length_map]; exact small1000 (by omega)
        refine ⟨_, rfl, _, _, rfl, rfl, _, rfl, ite2 (fun _ => ?_) (fun _ => ?_)⟩
        · refine ⟨_, rfl, .inl ⟨rfl, _, .inl (.inl hpl)⟩, _, rfl, _, _, rfl, rfl, (by show (0 : Int) < _; decide), p, _, _, rfl, rfl, hpl, hsz, ?_⟩
          refine ⟨_, rfl, _, _, rfl, rfl, ⟨by decide, by decide⟩, ?_⟩
          exact flow_turn hs hp hrl hro
        · refine ⟨_, rfl, _, _, rfl, rfl, ?_⟩
          refine ⟨fun σ' H2 => ∃ cell : Int, σ' = [some (.ref a), some (.int m), some (.int g), some (.ref p), some (.int (0 + (i : Int))), some (.int cell), x] ∧ H' = H2, ?_, ?_⟩
          · refine ⟨_, rfl, _, _, rfl, .inl hA, _, _, rfl, rfl, _, rfl, ite2 (fun hd => ?_) (fun _ => ⟨_, rfl, rfl⟩)⟩
            have h0 : 0 < ns.length := by
              have := of_decide_eq_true hd
              rw [hlen] at this
              omega
            obtain ⟨z, hz⟩ := mod_at h0 i
            refine ⟨_, rfl, _, rfl, _, rfl, _, _, rfl, .inl hA, _, _, rfl, rfl, (by rw [hlen]; omega), a, _, _, .int z, rfl, rfl, hA, ?_, ⟨z, rfl, rfl⟩⟩
            rw [hlen, Int.zero_add]
            exact hz
          · rintro _ _ ⟨cell, rfl, rfl⟩
            refine ⟨_, rfl, _, _, rfl, rfl, mulR (by decide) (by decide), _, rfl, _, _, rfl, rfl, mulR (by decide) (by decide), _, _, rfl, rfl, _, _, rfl, rfl, _, _, rfl, rfl, (by show (0 : Int) < _; decide), ?_⟩
            refine ⟨_, rfl, _, _, rfl, rfl, mulR (by decide) (by decide), _, rfl, _, _, rfl, rfl, mulR (by decide) (by decide), _, _, rfl, rfl, _, rfl, _, _, rfl, .inl hA, _, _, rfl, rfl, _, _, rfl, rfl, (by show (0 : Int) < _; decide), ?_⟩
            refine ⟨_, rfl, .inl ⟨rfl, _, .inl (.inl hpl)⟩, _, rfl, _, _, rfl, rfl, ⟨by decide, by decide⟩, _, _, rfl, rfl, (by show (0 : Int) < _; decide), p, _, _, rfl, rfl, hpl, hsz, ?_⟩
            exact flow_turn hs hp hrl hro
      · rintro σ H' ⟨g, rs, k, c, x, rfl, hs, hpl, hrl, hro⟩
        exact ⟨_, rfl, q H' p rs hs hp hrl hro hpl⟩

/-! ### fractions in lowest terms: the mathematics -/
def lowI (t b : Int) : Int × Int := if b < 0 then ((-t) / ((Nat.gcd t.natAbs b.natAbs : Nat) : Int), (-b) / ((Nat.gcd t.natAbs b.natAbs : Nat) : Int)) else (t / ((Nat.gcd t.natAbs b.natAbs : Nat) : Int), b / ((Nat.gcd t.natAbs b.natAbs : Nat) : Int))
/-- lowest terms: x over y -/
structure Low (x y : Int) : Prop where
  pos : 0 < y
  one : Nat.gcd x.natAbs y.natAbs = 1
theorem lowI_pos {t b : Int} (h : 0 < b) : Low (lowI t b).1 (lowI t b).2 ∧ (lowI t b).1 * b = (lowI t b).2 * t ∧ (lowI t b).2 ≤ b ∧ (lowI t b).1.natAbs ≤ t.natAbs := by
  have hg : 0 < Nat.gcd t.natAbs b.natAbs := Nat.gcd_pos_of_pos_right _ (by omega)
  obtain ⟨x, hx⟩ := Nat.gcd_dvd_left t.natAbs b.natAbs
  obtain ⟨y, hy⟩ := Nat.gcd_dvd_right t.natAbs b.natAbs
  have e : lowI t b = (t / ((Nat.gcd t.natAbs b.natAbs : Nat) : Int), b / ((Nat.gcd t.natAbs b.natAbs : Nat) : Int)) := by
    unfold lowI
    rw [if_neg (by omega)]
  rw [e]
  generalize hgd : Nat.gcd t.natAbs b.natAbs = g at *
  have hg' : (g : Int) ≠ 0 := by omega
  have hb : b = (g : Int) * (y : Int) := by
    have : (b.natAbs : Int) = ((g * y : Nat) : Int) := by rw [← hy]
    rw [Int.natCast_mul] at this
    omega
  have eb : b / (g : Int) = (y : Int) := by rw [hb]; exact Int.mul_ediv_cancel_left _ hg'
  have hy0 : 0 < y := by
    rcases Nat.eq_zero_or_pos y with q | q
    · rw [q, Int.ofNat_zero, Int.mul_zero] at hb; omega
    · exact q
  have ht : t = (g : Int) * (if t < 0 then -(x : Int) else (x : Int)) := by
    have : (t.natAbs : Int) = ((g * x : Nat) : Int) := by rw [← hx]
    rw [Int.natCast_mul] at this
    split
    · rw [Int.mul_neg]; omega
    · omega
  have et : t / (g : Int) = (if t < 0 then -(x : Int) else (x : Int)) := by
    conv => lhs; rw [ht]
    exact Int.mul_ediv_cancel_left _ hg'
  have hcop : Nat.gcd x y = 1 := by
    have h1 : Nat.gcd (g * x) (g * y) = g * Nat.gcd x y := Nat.gcd_mul_left g x y
    rw [← hx, ← hy, hgd] at h1
    have h2 : g * 1 = g * Nat.gcd x y := by rw [Nat.mul_one]; exact h1
    exact (Nat.eq_of_mul_eq_mul_left hg h2).symm
  rw [eb, et]
  have hna : (if t < 0 then -(x : Int) else (x : Int)).natAbs = x := by split <;> omega
  refine ⟨⟨by omega, ?_⟩, ?_, ?_, ?_⟩
  · rw [hna, Int.natAbs_natCast]; exact hcop
  · have := ht
    generalize (if t < 0 then -(x : Int) else (x : Int)) = x' at *
    show x' * b = (y : Int) * t
    rw [hb, ht, Int.mul_left_comm x', Int.mul_left_comm (y : Int), Int.mul_comm x']
  · rw [hb]
    have : (1 : Int) * (y : Int) ≤ (g : Int) * (y : Int) := Int.mul_le_mul_of_nonneg_right (by omega) (by omega)
    omega
  · show (if t < 0 then -(x : Int) else (x : Int)).natAbs ≤ t.natAbs
    rw [hna, hx]
    exact Nat.le_mul_of_pos_left x hg
theorem lowI_neg {t b : Int} (h : b < 0) : lowI t b = lowI (-t) (-b) := by
  unfold lowI
  rw [if_pos h, if_neg (show ¬ (-b < 0) by omega), Int.natAbs_neg, Int.natAbs_neg]
theorem lowI_ok {t b : Int} (h : b ≠ 0) : Low (lowI t b).1 (lowI t b).2 ∧ (lowI t b).1 * b = (lowI t b).2 * t ∧ (lowI t b).2.natAbs ≤ b.natAbs ∧ (lowI t b).1.natAbs ≤ t.natAbs := by
  by_cases hb : 0 < b
  · obtain ⟨h1, h2, h3, h4⟩ := lowI_pos (t := t) hb
    exact ⟨h1, h2, by have := h1.pos; omega, h4⟩
  · have hn : b < 0 := by omega
    obtain ⟨h1, h2, h3, h4⟩ := lowI_pos (t := -t) (b := -b) (by omega)
    rw [← lowI_neg hn] at h1 h2 h3 h4
    refine ⟨h1, ?_, by have := h1.pos; omega, by rw [Int.natAbs_neg] at h4; exact h4⟩
    rw [Int.mul_neg, Int.mul_neg] at h2
    omega
theorem lowI_self {x y : Int} (h : Low x y) : lowI x y = (x, y) := by
  unfold lowI
  have := h.pos
  rw [if_neg (by omega), h.one]
  simp
/-- two in lowest terms that are worth the same are the same -/
theorem low_same {x y u v : Int} (h : Low x y) (k : Low u v) (e : x * v = u * y) : x = u ∧ y = v := by
  have hy := h.pos
  have hv := k.pos
  have e' : x.natAbs * v.natAbs = u.natAbs * y.natAbs := by rw [← Int.natAbs_mul, ← Int.natAbs_mul, e]
  have d1 : y.natAbs ∣ v.natAbs := by
    have : y.natAbs ∣ x.natAbs * v.natAbs := by rw [e']; exact Nat.dvd_mul_left _ _
    exact (Nat.Coprime.symm (show Nat.Coprime x.natAbs y.natAbs from h.one)).dvd_of_dvd_mul_left this
  have d2 : v.natAbs ∣ y.natAbs := by
    have : v.natAbs ∣ u.natAbs * y.natAbs := by rw [← e']; exact Nat.dvd_mul_left _ _
    exact (Nat.Coprime.symm (show Nat.Coprime u.natAbs v.natAbs from k.one)).dvd_of_dvd_mul_left this
  have ey : y.natAbs = v.natAbs := Nat.dvd_antisymm d1 d2
  have eyv : y = v := by omega
  subst eyv
  exact ⟨Int.eq_of_mul_eq_mul_right (by omega) e, rfl⟩
theorem fdiv_lowN {t g : Int} (hg : 0 < g) : t.fdiv (-g) = (-t) / g := by
  have e : t.fdiv (-g) = (-(-t)).fdiv (-g) := by rw [Int.neg_neg]
  rw [e, Int.neg_fdiv_neg, Int.fdiv_eq_ediv_of_nonneg _ (by omega)]
theorem fdiv_lowP {t g : Int} (hg : 0 < g) : t.fdiv g = t / g := Int.fdiv_eq_ediv_of_nonneg _ (by omega)
theorem gcd_log {t b : Int} (h : b ≠ 0) (hb : b.natAbs.log2 < 9000) : ((Nat.gcd t.natAbs b.natAbs : Nat) : Int).natAbs.log2 < 9000 := by
  rw [Int.natAbs_natCast]
  have h1 : Nat.gcd t.natAbs b.natAbs ≤ b.natAbs := Nat.gcd_le_right _ (by omega)
  have h2 : b.natAbs < 2 ^ (b.natAbs.log2 + 1) := Nat.lt_log2_self
  have h3 : (Nat.gcd t.natAbs b.natAbs).log2 < b.natAbs.log2 + 1 := PySem.Flt.log2_lt_of (by omega) (Nat.lt_of_le_of_lt h1 h2)
  omega

/-! ### whole, low, part -/
def sp_whole : Sp := fun vs H Q _ => ∃ n : Int, vs = [.int n] ∧ Q (.bl true) H
theorem ok__law_whole (T : Env K mg) : FnOk P w K mg base CX0 1 T.a__law_whole T.fd__law_whole ["_law_found"] sp_whole := by
  refine T.F__law_whole.ok sc__law_whole (fun vs H Q E h => ?_) (fun cdv A outer s H vs Q E hr h => ?_)
  · obtain ⟨n, rfl, _⟩ := h
    rfl
  · obtain ⟨n, rfl, q⟩ := h
    refine ⟨_, (pss_one (ps_ret (pe_and (pe_callB call_isi (by rfl) T.m_isinstance (by decide +kernel) (pa_cons (pv 0) (pa_cons (pe_bltn (v := .ty "int") (u := .type "int") (by rfl) T.m_int (by decide +kernel) rfl) pa_nil))) (pe_one (pe_not (pe_callB call_isi (by rfl) T.m_isinstance (by decide +kernel) (pa_cons (pv 0) (pa_cons (pe_bltn (v := .ty "bool") (u := .type "bool") (by rfl) T.m_bool (by decide +kernel) rfl) pa_nil)))))))), ?_⟩
    refine ⟨_, rfl, _, _, _, _, _, rfl, .ty _, .base (.int _), kit_ty (by decide +kernel), true, rfl, iteT ?_⟩
    exact ⟨_, rfl, _, _, _, _, _, rfl, .ty _, .base (.int _), kit_ty (by decide +kernel), false, rfl, q⟩
def sp_low : Sp := fun vs H Q _ => ∃ t b : Int, vs = [.int t, .int b] ∧ b ≠ 0 ∧ b.natAbs.log2 < 9000 ∧
  ∀ p, H p = none → Q (.ref p) (upd H p (.tup [.int (lowI t b).1, .int (lowI t b).2]))
theorem gcd_turn {a b : Nat} (h : 0 < b) : Nat.gcd b (a % b) = Nat.gcd a b := by
  rw [Nat.gcd_comm a b, Nat.gcd_rec b a, Nat.gcd_comm]
theorem ok__law_low (T : Env K mg) : FnOk P w K mg base CX0 1 T.a__law_low T.fd__law_low ["_law_top", "_law_bottom"] sp_low := by
  refine T.F__law_low.ok sc__law_low (fun vs H Q E h => ?_) (fun cdv A outer s H vs Q E hr h => ?_)
  · obtain ⟨t, b, rfl, _⟩ := h
    rfl
  · obtain ⟨t, b, rfl, hb, hlog, q⟩ := h
    refine ⟨_, (pss_cons (ps_set (i := 2) sc__law_low.nd rfl (.inl rfl) (pe_callB call_abs (by rfl) T.m_abs (by decide +kernel) (pa_cons (pv 0) pa_nil)))
 (pss_cons (ps_set (i := 3) sc__law_low.nd rfl (.inl rfl) (pe_callB call_abs (by rfl) T.m_abs (by decide +kernel) (pa_cons (pv 1) pa_nil)))
 (pss_cons (ps_while PassesOwn.never (pt_cmpR op_gt (pv 3) pe_int (nomark _))
 (pss_one (ps_par (i := 2) (j := 3) (by rfl) sc__law_low.nd rfl rfl (by decide) rfl rfl (pa_cons (pv 3) (pa_cons (pe_op op_mod (pv 2) (pv 3)) pa_nil)) (by rfl))))
 (C8.pss_cut (ps_if (pt_cmpR op_lt (pv 1) pe_int (nomark _))
 (pss_cons (ps_set (i := 0) sc__law_low.nd rfl (.inl rfl) (pe_un un_neg (pv 0)))
 (pss_one (ps_set (i := 1) sc__law_low.nd rfl (.inl rfl) (pe_un un_neg (pv 1)))))
 pss_nil)
 (pss_one (ps_ret (pe_tup (pa_cons (pe_op op_fdivX (pv 0) (pv 2)) (pa_cons (pe_op op_fdivX (pv 1) (pv 2)) pa_nil))))))))), ?_⟩
    refine ⟨_, rfl, _, rfl, _, rfl, _, rfl, ?_⟩
    have ab : ∀ z : Int, (if z < 0 then -z else z) = (z.natAbs : Int) := fun z => by split <;> omega
    rw [ab, ab]
    refine while_by (fun σ H' => H = H' ∧ ∃ x y : Nat, σ = [some (.int t), some (.int b), some (.int (x : Int)), some (.int (y : Int))] ∧ Nat.gcd x y = Nat.gcd t.natAbs b.natAbs)
      (fun σ _ => match σ with | [_, _, _, some (.int y)] => y.toNat | _ => 0) ⟨rfl, _, _, rfl, rfl⟩ ?_ ?_
    · rintro _ _ ⟨rfl, x, y, rfl, hg⟩
      refine ⟨_, rfl, _, _, rfl, rfl, _, rfl, ite2 (fun hd => ?_) (fun hd => ?_)⟩
      · have hy : 0 < y := by have := of_decide_eq_true hd; omega
        refine ⟨_, rfl, _, rfl, _, rfl, _, _, rfl, rfl, by omega, _, _, rfl, ⟨rfl, y, x % y, ?_, ?_⟩, ?_⟩
        · rw [Int.natCast_emod]; rfl
        · rw [gcd_turn hy]; exact hg
        · show ((x : Int) % (y : Int)).toNat < ((y : Int)).toNat
          have : x % y < y := Nat.mod_lt _ hy
          rw [← Int.natCast_emod]
          omega
      · have hy : y = 0 := by have h1 : ¬ ((0 : Int) < (y : Int)) := nd hd; omega
        subst hy
        rw [Nat.gcd_zero_right] at hg
        have hgp : 0 < Nat.gcd t.natAbs b.natAbs := Nat.gcd_pos_of_pos_right _ (by omega)
        have hgl := gcd_log (t := t) hb hlog
        rw [hg]
        generalize hG : Nat.gcd t.natAbs b.natAbs = g at *
        refine ⟨fun σ' H2 => H = H2 ∧ ∃ y0 : Option V, ((b < 0 ∧ σ' = [some (.int (-t)), some (.int (-b)), some (.int (g : Int)), y0]) ∨ (¬ b < 0 ∧ σ' = [some (.int t), some (.int b), some (.int (g : Int)), y0])), ?_, ?_⟩
        · refine ⟨_, rfl, _, _, rfl, rfl, _, rfl, ite2 (fun hd => ?_) (fun hd => ?_)⟩
          · exact ⟨_, rfl, _, rfl, _, rfl, _, rfl, rfl, _, .inl ⟨of_decide_eq_true hd, rfl⟩⟩
          · exact ⟨rfl, _, .inr ⟨nd hd, rfl⟩⟩
        · rintro σ' H2 ⟨rfl, y0, ⟨hn, rfl⟩ | ⟨hn, rfl⟩⟩
          · refine ⟨_, rfl, _, rfl, _, _, rfl, rfl, ⟨by omega, hgl⟩, _, rfl, _, rfl, _, _, rfl, rfl, ⟨by omega, hgl⟩, (by show 2 ≤ sizeLine; decide), fun p hp => ?_⟩
            have := q p hp
            unfold lowI at this
            rw [if_pos hn, hG] at this
            show Q (.ref p) (upd H p (.tup [.int ((-t).fdiv (g : Int)), .int ((-b).fdiv (g : Int))]))
            rw [fdiv_lowP (by omega), fdiv_lowP (by omega)]
            exact this
          · refine ⟨_, rfl, _, rfl, _, _, rfl, rfl, ⟨by omega, hgl⟩, _, rfl, _, rfl, _, _, rfl, rfl, ⟨by omega, hgl⟩, (by show 2 ≤ sizeLine; decide), fun p hp => ?_⟩
            have := q p hp
            unfold lowI at this
            rw [if_neg hn, hG] at this
            show Q (.ref p) (upd H p (.tup [.int (t.fdiv (g : Int)), .int (b.fdiv (g : Int))]))
            rw [fdiv_lowP (by omega), fdiv_lowP (by omega)]
            exact this
    · rintro σ H' Q1 Q2 hQ ⟨v, e, i, j, e1, e2, k, e3, q1⟩
      exact ⟨v, e, i, j, e1, e2, k, e3, hQ _ _ q1⟩
/-- what is told of a pair of ints: whether it is a fraction in lowest terms -/
def sp_part (K : PySem.W.Frag) : Sp := fun vs H Q _ => ∃ (p : Addr) (x y : Int), vs = [.ref p] ∧ H p = some (.tup [.int x, .int y]) ∧ Low x y ∧ y.natAbs.log2 < 9000 ∧ ∀ H', Same H H' → Q (.bl true) H'
theorem ok__law_part (T : Env K mg) : FnOk P w K mg base CX0 2 T.a__law_part T.fd__law_part ["_law_found"] (sp_part K) := by
  refine T.F__law_part.ok sc__law_part (fun vs H Q E h => ?_) (fun cdv A outer s H vs Q E hr h => ?_)
  · obtain ⟨p, x, y, rfl, _⟩ := h
    rfl
  · obtain ⟨p, x, y, rfl, hp, hL, hlog, q⟩ := h
    refine ⟨_, (pss_cons (ps_if (PW.pt (pw_or (pt_not (pt_val (pe_callB call_isi (by rfl) T.m_isinstance (by decide +kernel) (pa_cons (pv 0) (pa_cons (pe_bltn (v := .ty "tuple") (u := .type "tuple") (by rfl) T.m_tuple (by decide +kernel) rfl) pa_nil))))) (pw_or1 (pt_cmpR op_ne (pe_callB call_len_seq (by rfl) T.m_len (by decide +kernel) (pa_cons (pv 0) pa_nil)) pe_int (nomark _)))))
 (pss_one (ps_ret pe_bl))
 pss_nil)
 (pss_cons (ps_if (PW.pt (pw_or (pt_not (pt_val (pe_call (ok__law_whole T) (hr.mono (by decide)) (by rfl) T.g__law_whole T.F__law_whole.kp T.b__law_whole .nil pass0 (pa_cons (pe_ix ix_tup (pv 0) pe_int (fun _ _ => rfl)) pa_nil)))) (pw_or (pt_not (pt_val (pe_call (ok__law_whole T) (hr.mono (by decide)) (by rfl) T.g__law_whole T.F__law_whole.kp T.b__law_whole .nil pass0 (pa_cons (pe_ix ix_tup (pv 0) pe_int (fun _ _ => rfl)) pa_nil)))) (pw_or1 (pt_cmpR op_le (pe_ix ix_tup (pv 0) pe_int (fun _ _ => rfl)) pe_int (nomark _))))))
 (pss_one (ps_ret pe_bl))
 pss_nil)
 (pss_one (ps_ret (pe_cmpR (op_eqD hr.units) (pe_call (ok__law_low T) (hr.mono (by decide)) (by rfl) T.g__law_low T.F__law_low.kp T.b__law_low .nil pass0 (pa_cons (pe_ix ix_tup (pv 0) pe_int (fun _ _ => rfl)) (pa_cons (pe_ix ix_tup (pv 0) pe_int (fun _ _ => rfl)) pa_nil))) (pv 0) (nomark _)))))), ?_⟩
    have hS : SqT K H p [.int x, .int y] := .inl (.inl hp)
    have hpos := hL.pos
    refine ⟨_, rfl, _, _, _, _, _, rfl, .ty _, .base (.tup hp), kit_ty (by decide +kernel), true, rfl, ?_⟩
    show if false = true then _ else _
    rw [if_neg Bool.false_ne_true]
    refine ⟨_, rfl, _, _, rfl, .inr hS, rfl, _, rfl, ?_⟩
    refine iteNS rfl ?_
    refine ⟨_, rfl, _, _, _, _, rfl, rfl, hS, atI_nat (j := 0) rfl, _, rfl, true, rfl, iteF ?_⟩
    refine ⟨_, rfl, _, _, _, _, rfl, rfl, hS, atI_nat (j := 1) rfl, _, rfl, true, rfl, iteF ?_⟩
    refine ⟨_, rfl, _, _, _, _, rfl, rfl, hS, atI_nat (j := 1) rfl, _, _, rfl, rfl, _, rfl, ?_⟩
    rw [decide_eq_false (show ¬ y ≤ 0 by omega)]
    refine iteF ?_
    refine ⟨_, rfl, _, _, _, _, rfl, rfl, hS, atI_nat (j := 0) rfl, _, rfl, _, _, _, _, rfl, rfl, hS, atI_nat (j := 1) rfl, x, y, rfl, by omega, hlog, fun r hr' => ?_⟩
    rw [lowI_self hL]
    have hd : ∀ z H2, H2 z = some (.tup [.int x, .int y]) → Dp K H2 (.ref z) (.tuple [.int x, .int y]) := fun z H2 e => .tup (.inl (.inl e)) (.cons (.int x) (.cons (.int y) .nil))
    have hpr : p ≠ r := ne_of_none hp hr'
    refine ⟨_, rfl, _, _, hd r _ upd_same, hd p _ (by rw [upd_ne hpr]; exact hp), rfl, rfl, ?_⟩
    rw [SeqAt.eqv_refl _ (by rfl)]
    exact q _ (same_new hr')

/-! ### numbers as texts: the mathematics -/
open TL (tl spl)
def Dg (c : Nat) : Bool := decide (48 ≤ c) && decide (c ≤ 57)
theorem dg_all {w : List Nat} (h : w.all Dg = true) : NumText.AllDigits w := fun c hc => by
  have := List.all_eq_true.mp h c hc
  unfold Dg at this
  rw [Bool.and_eq_true, decide_eq_true_eq, decide_eq_true_eq] at this
  exact this
/-- a number from nought on, as written: at most 400 figures, no nought ahead -/
def numO (w : List Nat) : Option Nat := if (w ≠ [] ∧ w.length ≤ 400 ∧ w.all Dg = true) ∧ ¬ (1 < w.length ∧ w.head? = some 48) then some (NumText.digitsVal w) else none
theorem val_lt : ∀ (w : List Nat) (a : Nat), w.all Dg = true → w.foldl (fun acc c => acc * 10 + (c - 48)) a < (a + 1) * 10 ^ w.length
  | [], a, _ => by simp
  | c :: w, a, h => by
    rw [List.all_cons, Bool.and_eq_true] at h
    have hc : c - 48 < 10 := by
      have := h.1
      unfold Dg at this
      rw [Bool.and_eq_true, decide_eq_true_eq, decide_eq_true_eq] at this
      omega
    have ih := val_lt w (a * 10 + (c - 48)) h.2
    rw [List.foldl_cons, List.length_cons, Nat.pow_succ]
    have h2 : (a * 10 + (c - 48) + 1) * 10 ^ w.length ≤ ((a + 1) * 10) * 10 ^ w.length := Nat.mul_le_mul_right _ (by omega)
    have h3 : (a + 1) * 10 * 10 ^ w.length = (a + 1) * (10 ^ w.length * 10) := by rw [Nat.mul_assoc, Nat.mul_comm 10]
    omega
theorem num_lt {w : List Nat} {n : Nat} (h : numO w = some n) : n < 10 ^ 400 := by
  unfold numO at h
  split at h
  · rename_i hc
    cases h
    have := val_lt w 0 hc.1.2.2
    have h2 : 10 ^ w.length ≤ 10 ^ 400 := Nat.pow_le_pow_right (by decide) hc.1.2.1
    unfold NumText.digitsVal
    omega
  · cases h
/-- a whole number as written -/
def wholeO (w : List Nat) : Option Int := match w with
  | 45 :: r => match numO r with
    | some n => if n = 0 then none else some (-(n : Int))
    | none => none
  | _ => Option.map (fun n : Nat => (n : Int)) (numO w)
theorem whole_lt {w : List Nat} {n : Int} (h : wholeO w = some n) : n.natAbs < 10 ^ 400 := by
  unfold wholeO at h
  split at h
  · split at h
    · rename_i m hm
      have := num_lt hm
      split at h
      · cases h
      · cases h
        omega
    · cases h
  · cases hn : numO w with
    | none => rw [hn] at h; cases h
    | some m =>
      rw [hn] at h
      have := num_lt hn
      have e := Option.some.inj h
      dsimp only at e
      omega
theorem whole_pos {w : List Nat} (h : w.head? ≠ some 45) : wholeO w = Option.map (fun n : Nat => (n : Int)) (numO w) := by
  unfold wholeO
  split
  · exact absurd rfl h
  · rfl
/-- what is no number from nought on: its value -/
theorem num_zero {r : List Nat} (h : numO r = some 0) : r.head? = some 48 := by
  unfold numO at h
  split at h
  · rename_i hc
    cases r with
    | nil => exact absurd rfl hc.1.1
    | cons c r =>
      have hd := dg_all hc.1.2.2 c (List.mem_cons_self ..)
      by_cases e : c = 48
      · rw [e]; rfl
      · have hp := NumText.digitsVal_pos (c := c) (cs := r) (by omega)
        have := Option.some.inj h
        omega
  · cases h
theorem num_48 {r : List Nat} {n : Nat} (h : numO r = some n) (h2 : r.head? = some 48) : n = 0 := by
  unfold numO at h
  split at h
  · rename_i hc
    cases r with
    | nil => exact absurd rfl hc.1.1
    | cons c r =>
      have e : c = 48 := Option.some.inj h2
      have hl : ¬ (1 < (c :: r).length) := fun z => hc.2 ⟨z, h2⟩
      have er : r = [] := by
        cases r with
        | nil => rfl
        | cons d r => exact absurd (by rw [List.length_cons, List.length_cons]; omega) hl
      subst er e
      cases h
      rfl
  · cases h
def spl1 (L : List Nat) : List (List Nat) := spl [47] 0 [] L
theorem pre1 (c : Nat) (r : List Nat) : TL.pre [47] (c :: r) = decide (c = 47) := by
  unfold TL.pre
  show ((c :: r).take 1 == [47]) = decide (c = 47)
  show ([c] == [47]) = decide (c = 47)
  by_cases h : c = 47
  · subst h; rfl
  · rw [decide_eq_false h]
    exact beq_eq_false_iff_ne.mpr fun z => h (List.cons.inj z).1
theorem spl_acc : ∀ (L acc : List Nat), ∃ p r, spl [47] 0 [] L = p :: r ∧ spl [47] 0 acc L = (acc ++ p) :: r
  | [], acc => ⟨[], [], rfl, by rw [List.append_nil]; rfl⟩
  | c :: L, acc => by
    by_cases h : c = 47
    · refine ⟨[], spl [47] 0 [] L, ?_, ?_⟩
      · rw [TL.spl_hit (by rw [pre1, decide_eq_true h])]; rfl
      · rw [TL.spl_hit (by rw [pre1, decide_eq_true h]), List.append_nil]; rfl
    · obtain ⟨p, r, h1, h2⟩ := spl_acc L [c]
      obtain ⟨p3, r3, h3, h4⟩ := spl_acc L (acc ++ [c])
      rw [h1] at h3
      cases h3
      refine ⟨[c] ++ p, r, ?_, ?_⟩
      · rw [TL.spl_miss (by rw [pre1, decide_eq_false h]), List.nil_append, h2]
      · rw [TL.spl_miss (by rw [pre1, decide_eq_false h]), h4, List.append_assoc]
theorem spl1_cons {c : Nat} {L : List Nat} (h : c ≠ 47) : ∃ p r, spl1 L = p :: r ∧ spl1 (c :: L) = (c :: p) :: r := by
  obtain ⟨p, r, h1, h2⟩ := spl_acc L [c]
  refine ⟨p, r, h1, ?_⟩
  unfold spl1
  rw [TL.spl_miss (by rw [pre1, decide_eq_false h]), List.nil_append, h2]
  rfl
theorem spl1_head : ∀ (L : List Nat), ∃ p r, spl1 L = p :: r ∧ (p.head? = some 45 → L.head? = some 45)
  | [] => ⟨[], [], rfl, fun h => by cases h⟩
  | c :: L => by
    by_cases h : c = 47
    · refine ⟨[], spl1 L, ?_, fun z => by cases z⟩
      unfold spl1
      rw [TL.spl_hit (by rw [pre1, decide_eq_true h])]; rfl
    · obtain ⟨p, r, h1, h2⟩ := spl1_cons (L := L) h
      exact ⟨_, _, h2, fun z => z⟩
/-- how the program reads a fraction -/
def readO (L : List Nat) : Option (Int × Int) := match spl1 L with
  | [w0, w1] => match wholeO w0, wholeO w1 with
    | some t, some b => if b < 1 ∨ Nat.gcd t.natAbs b.natAbs ≠ 1 then none else some (t, b)
    | _, _ => none
  | _ => none
/-- the plain reading: behind one '-' -/
def dueR (neg : Bool) (L : List Nat) : Option (Int × Int) := match spl1 L with
  | [w0, w1] => match numO w0, numO w1 with
    | some t, some b => if b < 1 ∨ (neg = true ∧ t = 0) ∨ Nat.gcd t b ≠ 1 then none else some (if neg = true then -(t : Int) else (t : Int), (b : Int))
    | _, _ => none
  | _ => none
def dueO (L : List Nat) : Option (Int × Int) := if L.head? = some 45 then dueR true L.tail else dueR false L
theorem bottom_read (t : Int) (w1 : List Nat) : (match wholeO w1 with
    | some b => if b < 1 ∨ Nat.gcd t.natAbs b.natAbs ≠ 1 then none else some (t, b)
    | none => none) = (match numO w1 with
    | some b => if b < 1 ∨ Nat.gcd t.natAbs b ≠ 1 then none else some (t, (b : Int))
    | none => none) := by
  by_cases h : w1.head? = some 45
  · obtain ⟨r, rfl⟩ : ∃ r, w1 = 45 :: r := by
      cases w1 with
      | nil => cases h
      | cons c r => exact ⟨r, by rw [Option.some.inj h]⟩
    have e1 : numO (45 :: r) = none := by
      unfold numO
      rw [if_neg]
      rintro ⟨⟨_, _, h3⟩, _⟩
      rw [List.all_cons] at h3
      cases h3
    rw [e1]
    have ew : wholeO (45 :: r) = match numO r with | some n => if n = 0 then none else some (-(n : Int)) | none => none := rfl
    rw [ew]
    cases numO r with
    | none => rfl
    | some n =>
      show (match (if n = 0 then none else some (-(n : Int))) with
        | some b => if b < 1 ∨ Nat.gcd t.natAbs b.natAbs ≠ 1 then none else some (t, b)
        | none => none) = none
      by_cases h0 : n = 0
      · rw [if_pos h0]
      · rw [if_neg h0]
        show (if (-(n : Int)) < 1 ∨ _ then none else _) = none
        rw [if_pos (Or.inl (by omega))]
  · rw [whole_pos h]
    cases numO w1 with
    | none => rfl
    | some n =>
      show (if (n : Int) < 1 ∨ Nat.gcd t.natAbs (n : Int).natAbs ≠ 1 then none else some (t, (n : Int))) = (if n < 1 ∨ Nat.gcd t.natAbs n ≠ 1 then none else some (t, (n : Int)))
      rw [Int.natAbs_natCast]
      by_cases hc : n < 1 ∨ Nat.gcd t.natAbs n ≠ 1
      · rw [if_pos hc, if_pos (hc.imp (fun z => by omega) id)]
      · rw [if_neg hc, if_neg (fun z => hc (z.imp (fun z => by omega) id))]
theorem read_due (L : List Nat) : readO L = dueO L := by
  by_cases h : L.head? = some 45
  · obtain ⟨R, rfl⟩ : ∃ R, L = 45 :: R := by
      cases L with
      | nil => cases h
      | cons c R => exact ⟨R, by rw [Option.some.inj h]⟩
    obtain ⟨p, r, h1, h2⟩ := spl1_cons (c := 45) (L := R) (by decide)
    unfold dueO readO
    rw [if_pos h, h2]
    show _ = dueR true R
    unfold dueR
    rw [h1]
    match r with
    | [] => rfl
    | [w1] =>
      show (match wholeO (45 :: p), wholeO w1 with
        | some t, some b => if b < 1 ∨ Nat.gcd t.natAbs b.natAbs ≠ 1 then none else some (t, b)
        | _, _ => none) = (match numO p, numO w1 with
        | some t, some b => if b < 1 ∨ (true = true ∧ t = 0) ∨ Nat.gcd t b ≠ 1 then none else some (if true = true then -(t : Int) else (t : Int), (b : Int))
        | _, _ => none)
      have ew : wholeO (45 :: p) = match numO p with | some n => if n = 0 then none else some (-(n : Int)) | none => none := rfl
      rw [ew]
      cases hp : numO p with
      | none => rfl
      | some n =>
        show (match (if n = 0 then none else some (-(n : Int))), wholeO w1 with
          | some t, some b => if b < 1 ∨ Nat.gcd t.natAbs b.natAbs ≠ 1 then none else some (t, b)
          | _, _ => none) = _
        by_cases h0 : n = 0
        · rw [if_pos h0]
          show none = _
          cases numO w1 with
          | none => rfl
          | some m =>
            show none = (if m < 1 ∨ (true = true ∧ n = 0) ∨ _ then none else _)
            rw [if_pos (Or.inr (Or.inl ⟨rfl, h0⟩))]
        · rw [if_neg h0]
          have br := bottom_read (-(n : Int)) w1
          rw [Int.natAbs_neg, Int.natAbs_natCast] at br
          cases hw : wholeO w1 with
          | none =>
            rw [hw] at br
            cases hm : numO w1 with
            | none => rfl
            | some m =>
              rw [hm] at br
              show none = (if m < 1 ∨ (true = true ∧ n = 0) ∨ Nat.gcd n m ≠ 1 then none else _)
              have br' : none = (if m < 1 ∨ Nat.gcd n m ≠ 1 then none else some (-(n : Int), (m : Int))) := br
              by_cases hc : m < 1 ∨ Nat.gcd n m ≠ 1
              · rw [if_pos (hc.imp id Or.inr)]
              · rw [if_neg hc] at br'; cases br'
          | some b =>
            rw [hw] at br
            cases hm : numO w1 with
            | none =>
              rw [hm] at br
              show (if b < 1 ∨ Nat.gcd (-(n : Int)).natAbs b.natAbs ≠ 1 then none else some (-(n : Int), b)) = none
              rw [Int.natAbs_neg, Int.natAbs_natCast]
              exact br
            | some m =>
              rw [hm] at br
              show (if b < 1 ∨ Nat.gcd (-(n : Int)).natAbs b.natAbs ≠ 1 then none else some (-(n : Int), b)) = (if m < 1 ∨ (true = true ∧ n = 0) ∨ Nat.gcd n m ≠ 1 then none else some (-(n : Int), (m : Int)))
              rw [Int.natAbs_neg, Int.natAbs_natCast]
              refine Eq.trans br ?_
              show (if m < 1 ∨ Nat.gcd n m ≠ 1 then none else some (-(n : Int), (m : Int))) = _
              by_cases hc : m < 1 ∨ Nat.gcd n m ≠ 1
              · rw [if_pos hc, if_pos (hc.imp id Or.inr)]
              · rw [if_neg hc, if_neg (fun z => by
                  rcases z with z | z | z
                  · exact hc (Or.inl z)
                  · exact h0 z.2
                  · exact hc (Or.inr z))]
    | w1 :: w2 :: r => rfl
  · obtain ⟨p, r, h1, h2⟩ := spl1_head L
    have hp : p.head? ≠ some 45 := fun z => h (h2 z)
    unfold dueO readO
    rw [if_neg h, h1]
    unfold dueR
    rw [h1]
    match r with
    | [] => rfl
    | [w1] =>
      show (match wholeO p, wholeO w1 with
        | some t, some b => if b < 1 ∨ Nat.gcd t.natAbs b.natAbs ≠ 1 then none else some (t, b)
        | _, _ => none) = (match numO p, numO w1 with
        | some t, some b => if b < 1 ∨ (false = true ∧ t = 0) ∨ Nat.gcd t b ≠ 1 then none else some (if false = true then -(t : Int) else (t : Int), (b : Int))
        | _, _ => none)
      rw [whole_pos hp]
      cases hq : numO p with
      | none => rfl
      | some n =>
        have br := bottom_read (n : Int) w1
        rw [Int.natAbs_natCast] at br
        show (match some (n : Int), wholeO w1 with
          | some t, some b => if b < 1 ∨ Nat.gcd t.natAbs b.natAbs ≠ 1 then none else some (t, b)
          | _, _ => none) = _
        cases hw : wholeO w1 with
        | none =>
          rw [hw] at br
          cases hm : numO w1 with
          | none => rfl
          | some m =>
            rw [hm] at br
            show none = (if m < 1 ∨ (false = true ∧ n = 0) ∨ Nat.gcd n m ≠ 1 then none else _)
            have br' : none = (if m < 1 ∨ Nat.gcd n m ≠ 1 then none else some ((n : Int), (m : Int))) := br
            by_cases hc : m < 1 ∨ Nat.gcd n m ≠ 1
            · rw [if_pos (hc.imp id Or.inr)]
            · rw [if_neg hc] at br'; cases br'
        | some b =>
          rw [hw] at br
          cases hm : numO w1 with
          | none =>
            rw [hm] at br
            show (if b < 1 ∨ Nat.gcd (n : Int).natAbs b.natAbs ≠ 1 then none else some ((n : Int), b)) = none
            rw [Int.natAbs_natCast]
            exact br
          | some m =>
            rw [hm] at br
            show (if b < 1 ∨ Nat.gcd (n : Int).natAbs b.natAbs ≠ 1 then none else some ((n : Int), b)) = (if m < 1 ∨ (false = true ∧ n = 0) ∨ Nat.gcd n m ≠ 1 then none else some ((n : Int), (m : Int)))
            rw [Int.natAbs_natCast]
            refine Eq.trans br ?_
            show (if m < 1 ∨ Nat.gcd n m ≠ 1 then none else some ((n : Int), (m : Int))) = _
            by_cases hc : m < 1 ∨ Nat.gcd n m ≠ 1
            · rw [if_pos hc, if_pos (hc.imp id Or.inr)]
            · rw [if_neg hc, if_neg (fun z => by
                rcases z with z | z | z
                · exact hc (Or.inl z)
                · cases z.1
                · exact hc (Or.inr z))]
    | w1 :: w2 :: r => rfl

/-! ### texts: rules and facts -/
theorem op_mul_str {X : Cx} : OpR X (binaryOp .Mult) (fun x y H Q => ∃ z n, x = .str z ∧ y = .int n ∧ PySem.MulOk z n ∧ Q (.str (Txt.mul z n)) H) := by
  intro pins s σ H x y v u Q I rx ry h
  obtain ⟨z, n, rfl, rfl, hz, q⟩ := h
  obtain ⟨t, rfl⟩ := rx
  obtain ⟨t', rfl⟩ := ry
  exact PySem.SB.mul hz (fun t' k => ⟨.str (Txt.mul z n), H, I.tok _, ⟨_, rfl⟩, q⟩)
theorem for_str {x : Str} {g : TG} {tb : TS} {D : Ends} {σ : L2.St} {H : Hp} (Pv : Nat → L2.St → Hp → Prop) (h0 : Pv 0 σ H)
    (hs : ∀ i c σ H, (tl x)[i]? = some c → Pv i σ H → g (.str ⟨#[c]⟩) σ H fun σ2 H2 => tb { D with nx := Pv (i + 1), ct := Pv (i + 1), bk := D.nx } σ2 H2) (hd : ∀ σ H, Pv x.cps.size σ H → D.nx σ H) :
    ∃ W : Nat → Nat → L2.St → Hp → Prop, (∃ m, W 0 m σ H) ∧ ∀ i m σ H, W i m σ H →
      ((Its x).stop i H ∧ D.nx σ H) ∨ ((Its x).go i H ∧ ∃ N : L2.St → Hp → Prop, (∀ σ' H', N σ' H' → ∃ m', m' < m ∧ W (i + 1) m' σ' H') ∧ ∀ y H', (Its x).yld i H y H' → g y σ H' fun σ2 H2 => tb { D with nx := N, ct := N, bk := D.nx } σ2 H2) := by
  refine ⟨fun i m σ H => m = x.cps.size - i ∧ i ≤ x.cps.size ∧ Pv i σ H, ⟨x.cps.size, by simp, Nat.zero_le _, h0⟩, ?_⟩
  rintro i m σ H ⟨rfl, hi, p⟩
  by_cases hlt : i < x.cps.size
  · refine .inr ⟨hlt, Pv (i + 1), fun σ' H' p' => ⟨x.cps.size - (i + 1), by omega, rfl, hlt, p'⟩, fun y H' hy => ?_⟩
    obtain ⟨e, c, hc, rfl⟩ := hy
    subst e
    exact hs i c σ _ (by rw [← hc]; exact Array.getElem?_toList) p
  · have e : i = x.cps.size := by omega
    subst e
    exact .inl ⟨Nat.le_refl _, hd σ H p⟩
theorem str_dec (x y : Str) : decide (V.str x = V.str y) = decide (tl x = tl y) := by
  by_cases h : tl x = tl y
  · rw [decide_eq_true h, TL.ext_tl h, decide_eq_true rfl]
  · rw [decide_eq_false h, decide_eq_false (fun z => h (congrArg tl (V.str.inj z)))]
def stripL (L : List Nat) : List Nat := match L with
  | 45 :: r => r
  | l => l
theorem tl_rp (z : Str) : tl (Txt.removeprefix z "-") = stripL (tl z) := by
  rw [PySem.StrLaws.removeprefix_eq, PySem.StrLaws.subAt_eq]
  have e1 : (("-" : Str)).length = 1 := by decide +kernel
  have e2 : (("-" : Str)).cps.toList = [45] := by decide +kernel
  rw [e1, e2, List.drop_zero]
  have hz : z.cps.toList.length = z.length := Array.length_toList
  cases hL : z.cps.toList with
  | nil =>
    rw [hL] at hz
    rw [if_neg]
    · rw [show tl z = [] from hL]; rfl
    · rw [decide_eq_false (by rw [← hz]; decide)]
      decide
  | cons c r =>
    rw [hL, List.length_cons] at hz
    rw [decide_eq_true (by omega), Bool.true_and, show stripL (tl z) = stripL (c :: r) from congrArg stripL hL]
    show tl (if ([c] == [45]) = true then _ else z) = stripL (c :: r)
    by_cases h : c = 45
    · subst h
      rw [if_pos (by rfl)]
      show ((45 :: r).drop 1).take (z.length - 1) = r
      rw [← hz]
      show r.take (r.length + 1 - 1) = r
      rw [Nat.add_sub_cancel, List.take_length]
    · rw [if_neg (by simpa using h)]
      show z.cps.toList = stripL (c :: r)
      rw [hL]
      unfold stripL
      split
      · rename_i e
        exact absurd (List.cons.inj e).1 h
      · rfl
theorem dg_ascii {c : Nat} : (decide (c < 128) && Unicode.isDigit c) = Dg c := by
  by_cases h : c < 128
  · rw [decide_eq_true h, Bool.true_and]
    have k : ∀ n : _root_.Fin 128, Unicode.isDigit n.val = Dg n.val := by decide +kernel
    exact k ⟨c, h⟩
  · rw [decide_eq_false h]
    unfold Dg
    rw [decide_eq_false (show ¬ c ≤ 57 by omega), Bool.and_false, Bool.false_and]
theorem digits_are (z : Str) : (Txt.isascii z && Txt.isdigit z) = (!(tl z).isEmpty && (tl z).all Dg) := by
  unfold Txt.isascii Txt.isdigit
  have e : (tl z).all Dg = ((tl z).all (fun c => decide (c < 128)) && (tl z).all Unicode.isDigit) := by
    generalize tl z = L
    induction L with
    | nil => rfl
    | cons c L ih =>
      rw [List.all_cons, List.all_cons, List.all_cons, ih, ← dg_ascii]
      cases decide (c < 128) <;> cases Unicode.isDigit c <;> cases L.all (fun c => decide (c < 128)) <;> rfl
  rw [e]
  have e1 : z.cps.all (fun c => decide (c < 128)) = (tl z).all (fun c => decide (c < 128)) := Array.all_toList.symm
  have e2 : z.cps.all Unicode.isDigit = (tl z).all Unicode.isDigit := Array.all_toList.symm
  rw [e1, e2]
  have e3 : decide (z.length > 0) = !(tl z).isEmpty := by
    have hz : (tl z).length = z.length := Array.length_toList
    rw [← hz]
    cases tl z <;> simp
  rw [e3]
  cases (tl z).isEmpty <;> cases (tl z).all (fun c => decide (c < 128)) <;> cases (tl z).all Unicode.isDigit <;> rfl

open TL (tl spl)
/-! ### figures.whole_read -/
theorem len_tlz (z : Str) : (tl z).length = z.length := Array.length_toList
theorem sz {n m : Nat} (h : n ≤ m) (hm : m ≤ 1000000 := by decide) : n ≤ sizeLine := Nat.le_trans h (Nat.le_trans hm (by decide))
def sp_whole_read : Sp := fun vs H Q _ => ∃ z : Str, vs = [.str z] ∧ z.length ≤ 20000 ∧ (wholeO (tl z) = none → Q .non H) ∧ ∀ n, wholeO (tl z) = some n → Q (.int n) H
theorem whole_of_none {L : List Nat} (h : numO (stripL L) = none) : wholeO L = none := by
  by_cases hh : L.head? = some 45
  · obtain ⟨r, rfl⟩ : ∃ r, L = 45 :: r := by
      cases L with
      | nil => cases hh
      | cons c r => exact ⟨r, by rw [Option.some.inj hh]⟩
    have h' : numO r = none := h
    unfold wholeO
    simp only [h']
  · have e : stripL L = L := by
      unfold stripL
      split
      · exact absurd rfl hh
      · rfl
    rw [e] at h
    rw [whole_pos hh, h]
    rfl
theorem strip_len (L : List Nat) : (stripL L).length ≤ L.length := by
  unfold stripL
  split
  · simp
  · exact Nat.le_refl _
theorem ok_whole_read (T : Env K mg) : FnOk P w K mg base CX0 1 T.a_whole_read T.fd_whole_read ["word"] sp_whole_read := by
  refine T.F_whole_read.ok sc_whole_read (fun vs H Q E h => ?_) (fun cdv A outer s H vs Q E hr h => ?_)
  · obtain ⟨z, rfl, _⟩ := h
    rfl
  · obtain ⟨z, rfl, hz, k0, k1⟩ := h
    refine ⟨_, (pss_cons (ps_set (i := 1) sc_whole_read.nd rfl (.inl rfl) (pe_m1 PySem.F.slot_str_removeprefix PySem.F.type_str_removeprefix mt_removeprefix (pv 0) pe_str))
 (pss_cons (ps_if (pt_cmpR op_gt (pe_callB call_len_str (by rfl) T.m_len (by decide +kernel) (pa_cons (pv 1) pa_nil)) (pe_glob (v := .int 400) rfl T.m_MOST_FIGURES ⟨_, rfl⟩) (nomark _))
 (pss_one (ps_ret pe_non))
 pss_nil)
 (pss_cons (ps_if (pt_not (PW.pt (pw_and (pt_val (pe_m0 PySem.F.slot_str_isascii PySem.F.type_str_isascii mt_isascii (pv 1))) (pw_and1 (pt_val (pe_m0 PySem.F.slot_str_isdigit PySem.F.type_str_isdigit mt_isdigit (pv 1)))))))
 (pss_one (ps_ret pe_non))
 pss_nil)
 (pss_cons (ps_if (PW.pt (pw_and (pt_cmpR op_eq (pe_ix ix_str (pv 1) pe_int (fun _ _ => rfl)) pe_str (nomark _)) (pw_and1 (pt_cmpR op_ne (pv 0) pe_str (nomark _)))))
 (pss_one (ps_ret pe_non))
 pss_nil)
 (pss_one (ps_ret (pe_callTy call_int_str (by rfl) T.m_int (by decide +kernel) (pa_cons (pv 0) pa_nil)))))))), ?_⟩
    -- figures
    refine ⟨_, rfl, ⟨_, rfl⟩, _, _, rfl, rfl, sz hz, ?_⟩
    have hF := tl_rp z
    have hFl : (Txt.removeprefix z "-").length ≤ 20000 := by
      rw [← len_tlz, hF]
      exact Nat.le_trans (strip_len _) (by rw [len_tlz]; exact hz)
    generalize Txt.removeprefix z "-" = f at *
    -- more than 400
    refine ⟨_, rfl, _, rfl, sz hFl, _, _, rfl, rfl, _, rfl, ite2 (fun hd => ?_) (fun hd => ?_)⟩
    · have h4 : (400 : Int) < (f.length : Int) := of_decide_eq_true hd
      refine k0 (whole_of_none ?_)
      rw [← hF]
      unfold numO
      rw [if_neg]
      rintro ⟨⟨_, h2, _⟩, _⟩
      rw [len_tlz] at h2
      omega
    · have h4 : ¬ (400 : Int) < (f.length : Int) := nd hd
      have hl4 : (tl f).length ≤ 400 := by rw [len_tlz]; omega
      have hdig := digits_are f
      -- figures alone
      refine ⟨_, rfl, ⟨_, rfl⟩, _, rfl, rfl, trivial, _, rfl, ?_⟩
      have stop : ¬ (tl f ≠ [] ∧ (tl f).all Dg = true) → wholeO (tl z) = none := fun hn => whole_of_none (by
        rw [← hF]
        unfold numO
        rw [if_neg]
        rintro ⟨⟨h1, _, h3⟩, _⟩
        exact hn ⟨h1, h3⟩)
      have bad : (Txt.isascii f && Txt.isdigit f) = false → ¬ (tl f ≠ [] ∧ (tl f).all Dg = true) := fun hb h => by
        rw [hdig, h.2, Bool.and_true] at hb
        cases ht : tl f with
        | nil => exact h.1 ht
        | cons c r => rw [ht] at hb; cases hb
      cases ha : Txt.isascii f with
      | false =>
        refine iteF ?_
        refine iteT ?_
        exact k0 (stop (bad (by rw [ha, Bool.false_and])))
      | true =>
        refine iteT ?_
        refine ⟨_, rfl, ⟨_, rfl⟩, _, rfl, rfl, trivial, _, rfl, ?_⟩
        cases hb : Txt.isdigit f with
        | false =>
          refine iteT ?_
          exact k0 (stop (bad (by rw [hb, Bool.and_false])))
        | true =>
          refine iteF ?_
          rw [ha, hb] at hdig
          have hne : tl f ≠ [] := fun e => by rw [e] at hdig; cases hdig
          have hall : (tl f).all Dg = true := by
            cases hc : (tl f).all Dg with
            | true => rfl
            | false => rw [hc, Bool.and_false] at hdig; cases hdig
          obtain ⟨c, r, hcr⟩ : ∃ c r, tl f = c :: r := by
            cases ht : tl f with
            | nil => exact absurd ht hne
            | cons c r => exact ⟨c, r, rfl⟩
          have hAD := dg_all hall
          have hat : atI f.cps.toList 0 = some c := by
            refine atI_nat (j := 0) ?_
            show (tl f)[0]? = some c
            rw [hcr]
            rfl
          have e0 : tl ("0" : Str) = [48] := by decide +kernel
          have d1 : decide (V.str ⟨#[c]⟩ = V.str "0") = decide (c = 48) := by
            rw [str_dec, e0]
            show decide ([c] = [48]) = _
            by_cases h : c = 48
            · rw [h]; rfl
            · rw [decide_eq_false h, decide_eq_false (fun z => h (List.cons.inj z).1)]
          have d2 : decide (V.str z = V.str "0") = decide (tl z = [48]) := by rw [str_dec, e0]
          have num_ok : ¬ (1 < (tl f).length ∧ (tl f).head? = some 48) → numO (tl f) = some (NumText.digitsVal (tl f)) := fun h => by
            unfold numO
            rw [if_pos ⟨⟨hne, hl4, hall⟩, h⟩]
          refine ⟨_, rfl, _, _, _, rfl, rfl, sz hFl, hat, rfl, _, rfl, ?_⟩
          rw [d1]
          by_cases hh : z.cps.toList.head? = some 45
          · -- behind a '-'
            obtain ⟨R, hR⟩ : ∃ R, tl z = 45 :: R := by
              cases hL : tl z with
              | nil => rw [show z.cps.toList = [] from hL] at hh; cases hh
              | cons d R => rw [show z.cps.toList = d :: R from hL] at hh; exact ⟨R, by rw [Option.some.inj hh]⟩
            have eR : R = tl f := by rw [hF, hR]; rfl
            have ew : wholeO (tl z) = match numO (tl f) with | some n => if n = 0 then none else some (-(n : Int)) | none => none := by rw [hR, ← eR]; rfl
            by_cases h48 : c = 48
            · rw [decide_eq_true h48]
              refine iteT ?_
              refine ⟨_, rfl, rfl, _, rfl, ?_⟩
              rw [d2, hR, decide_eq_false (fun e => by cases e)]
              refine iteT ?_
              refine k0 ?_
              rw [ew]
              cases hn : numO (tl f) with
              | none => rfl
              | some n =>
                have : n = 0 := num_48 hn (by rw [hcr, h48]; rfl)
                show (if n = 0 then none else _) = none
                rw [if_pos this]
            · rw [decide_eq_false h48]
              refine iteF ?_
              have hnum := num_ok (fun h => h48 (by rw [hcr] at h; exact Option.some.inj h.2))
              have hv : NumText.digitsVal (tl f) ≠ 0 := fun e => by
                rw [e] at hnum
                have := num_zero hnum
                rw [hcr] at this
                exact h48 (Option.some.inj this)
              refine ⟨_, rfl, z, -((NumText.digitsVal (tl f) : Nat) : Int), rfl, intText_neg hR (eR ▸ hAD) (eR ▸ hne) (by rw [← len_tlz, hR, eR, List.length_cons]; omega) |>.trans (by rw [eR]), ?_, ?_⟩
              · rw [← len_tlz, hR, eR, List.length_cons]; omega
              · refine k1 _ ?_
                rw [ew, hnum]
                show (if NumText.digitsVal (tl f) = 0 then none else _) = _
                rw [if_neg hv]
          · -- no '-'
            have ef : tl z = tl f := by
              rw [hF]
              unfold stripL
              split
              · rename_i e; rw [show z.cps.toList = _ from e] at hh; exact absurd rfl hh
              · rfl
            have ew : wholeO (tl z) = Option.map (fun n : Nat => (n : Int)) (numO (tl f)) := by rw [← ef]; exact whole_pos hh
            have ezf : z = f := TL.ext_tl ef
            have fin : ¬ (1 < (tl f).length ∧ (tl f).head? = some 48) → ∀ H', H' = H → ∃ a n, [V.str z] = [V.str a] ∧ intText? a = some n ∧ a.length ≤ 640 ∧ Q (.int n) H' := fun h H' e => by
              subst e
              refine ⟨z, ((NumText.digitsVal (tl f) : Nat) : Int), rfl, ?_, ?_, k1 _ (by rw [ew, num_ok h]; rfl)⟩
              · rw [ezf]; exact intText_digits hAD hne (by rw [← len_tlz]; omega)
              · rw [ezf, ← len_tlz]; omega
            by_cases h48 : c = 48
            · rw [decide_eq_true h48]
              refine iteT ?_
              refine ⟨_, rfl, rfl, _, rfl, ?_⟩
              rw [d2, ef]
              by_cases h1 : tl f = [48]
              · rw [decide_eq_true h1]
                refine iteF ?_
                exact ⟨_, rfl, fin (fun h => by rw [h1] at h; exact absurd h.1 (by decide)) H rfl⟩
              · rw [decide_eq_false h1]
                refine iteT ?_
                refine k0 ?_
                rw [ew]
                have : numO (tl f) = none := by
                  unfold numO
                  rw [if_neg]
                  rintro ⟨_, h3⟩
                  refine h3 ⟨?_, by rw [hcr, h48]; rfl⟩
                  rw [hcr, List.length_cons]
                  cases r with
                  | nil => exact absurd (by rw [hcr, h48]) h1
                  | cons d r => rw [List.length_cons]; omega
                rw [this]
                rfl
            · rw [decide_eq_false h48]
              refine iteF ?_
              exact ⟨_, rfl, fin (fun h => h48 (by rw [hcr] at h; exact Option.some.inj h.2)) H rfl⟩
/-! ### is_part -/
def sp_is_part (K : PySem.W.Frag) : Sp := fun vs H Q _ => ∃ (p : Addr) (x y : Int), vs = [.ref p] ∧ SqT K H p [.int x, .int y] ∧ Q (.bl (decide (0 < y) && decide (Nat.gcd x.natAbs y.natAbs = 1))) H
theorem ok_is_part (T : Env K mg) : FnOk P w K mg base CX0 1 T.a_is_part T.fd_is_part ["one"] (sp_is_part K) := by
  refine T.F_is_part.ok sc_is_part (fun vs H Q E h => ?_) (fun cdv A outer s H vs Q E hr h => ?_)
  · obtain ⟨p, x, y, rfl, _⟩ := h
    rfl
  · obtain ⟨p, x, y, rfl, hp, k⟩ := h
    refine ⟨_, (pss_one (ps_ret (pe_and (pe_cmpR op_gt (pe_ix ix_tup (pv 0) pe_int (fun _ _ => rfl)) pe_int (nomark _)) (pe_one (pe_cmpR op_eq (pe_callBfun cr_gcd (by rfl) T.m_gcd (pa_cons (pe_ix ix_tup (pv 0) pe_int (fun _ _ => rfl)) (pa_cons (pe_ix ix_tup (pv 0) pe_int (fun _ _ => rfl)) pa_nil))) pe_int (nomark _)))))), ?_⟩
    refine ⟨_, rfl, p, _, _, _, rfl, rfl, hp, atI_nat (j := 1) rfl, _, _, rfl, rfl, _, rfl, ?_⟩
    by_cases hy : 0 < y
    · rw [decide_eq_true hy] at k ⊢
      refine iteT ?_
      refine ⟨_, rfl, p, _, _, _, rfl, rfl, hp, atI_nat (j := 0) rfl, _, rfl, p, _, _, _, rfl, rfl, hp, atI_nat (j := 1) rfl, _, _, rfl, rfl, ?_⟩
      have e : decide (V.int ((Nat.gcd x.natAbs y.natAbs : Nat) : Int) = V.int 1) = decide (Nat.gcd x.natAbs y.natAbs = 1) := by
        refine decide_eq_decide.mpr ⟨fun h => ?_, fun h => by rw [h]; rfl⟩
        have := V.int.inj h
        omega
      show Q (V.bl (decide (V.int ((Nat.gcd x.natAbs y.natAbs : Nat) : Int) = V.int 1))) H
      rw [e]
      exact k
    · rw [decide_eq_false hy] at k ⊢
      exact iteF k
/-! ### part_read -/
def sp_part_read (C : Addr) : Sp := fun vs H Q E => ∃ z : Str, vs = [.str z] ∧ z.length ≤ 20000 ∧ (readO (tl z) = none → ∀ H', Same H H' → E (.ref C) none H') ∧
  ∀ t b, readO (tl z) = some (t, b) → ∀ H' p, Same H H' → H p = none → H' p = some (.tup [.int t, .int b]) → Q (.ref p) H'
theorem split_len (z : Str) : ∀ x ∈ Txt.split z "/", x.length ≤ z.length := by
  have e := TL.split_spl z "/" (by decide +kernel) (TL.kind_ok (by decide +kernel))
  have es : tl ("/" : Str) = [47] := by decide +kernel
  rw [es] at e
  have key : ∀ (L acc : List Nat), ∀ x ∈ spl [47] 0 acc L, x.length ≤ acc.length + L.length := by
    intro L
    induction L with
    | nil =>
      intro acc x hx
      rw [TL.spl_nil, List.mem_singleton] at hx
      rw [hx]
      exact Nat.le_add_right _ _
    | cons c L ih =>
      intro acc x hx
      by_cases h : c = 47
      · rw [TL.spl_hit (by rw [pre1, decide_eq_true h])] at hx
        rcases List.mem_cons.mp hx with q | q
        · rw [q]; exact Nat.le_add_right _ _
        · have := ih [] x q
          rw [List.length_cons]
          rw [List.length_nil] at this
          omega
      · rw [TL.spl_miss (by rw [pre1, decide_eq_false h])] at hx
        have := ih _ x hx
        rw [List.length_append, List.length_singleton] at this
        rw [List.length_cons]
        omega
  intro x hx
  have h1 : tl x ∈ spl [47] 0 [] (tl z) := by rw [← e]; exact List.mem_map_of_mem hx
  have := key _ _ _ h1
  rw [List.length_nil, len_tlz, len_tlz] at this
  omega
theorem split_is (z : Str) : (Txt.split z "/").map tl = spl1 (tl z) := by
  have e := TL.split_spl z "/" (by decide +kernel) (TL.kind_ok (by decide +kernel))
  have es : tl ("/" : Str) = [47] := by decide +kernel
  rw [es] at e
  exact e
theorem p400 : (10 : Nat) ^ 400 ≤ 2 ^ 1400 := by decide +kernel
theorem ok_part_read (T : Env K mg) : FnOk P w K mg base (L2.CX P w) 2 T.a_part_read T.fd_part_read ["line"] (sp_part_read T.C_NoFraction) := by
  refine T.F_part_read.okX sc_part_read (fun vs H Q E h => ?_) (fun cdv A outer s H vs Q E hr h => ?_)
  · obtain ⟨z, rfl, _⟩ := h
    rfl
  · obtain ⟨z, rfl, hz, k0, k1⟩ := h
    refine ⟨_, (pss_cons (ps_set (i := 1) sc_part_read.nd rfl (.inl rfl) (pe_split (pv 0) pe_str))
 (pss_cons (ps_if (pt_cmpR op_ne (pe_callB call_len_seq (by rfl) T.m_len (by decide +kernel) (pa_cons (pv 1) pa_nil)) pe_int (nomark _))
 (pss_one (ps_raise rfl (takes_of rfl rfl rfl rfl) (pmk_own PySem.F.excBase_ValueError T.x_NoFraction T.c_NoFraction T.k_NoFraction (raises_own T.bs_NoFraction T.ty_NoFraction) rfl)))
 pss_nil)
 (pss_cons (ps_set (i := 2) sc_part_read.nd rfl (.inl rfl) (pe_call (ok_whole_read T) (hr.mono (by decide)) (by rfl) T.g_whole_read T.F_whole_read.kp T.b_whole_read .nil pass0 (pa_cons (pe_ix (r := rIxL K) ix_list (pv 1) pe_int (fun _ _ => rfl)) pa_nil)))
 (pss_cons (ps_set (i := 3) sc_part_read.nd rfl (.inl rfl) (pe_call (ok_whole_read T) (hr.mono (by decide)) (by rfl) T.g_whole_read T.F_whole_read.kp T.b_whole_read .nil pass0 (pa_cons (pe_ix (r := rIxL K) ix_list (pv 1) pe_int (fun _ _ => rfl)) pa_nil)))
 (pss_cons (ps_if (PW.pt (pw_or (pt_cmpR op_isN (pv 2) pe_non (nomark _)) (pw_or1 (pt_cmpR op_isN (pv 3) pe_non (nomark _)))))
 (pss_one (ps_raise rfl (takes_of rfl rfl rfl rfl) (pmk_own PySem.F.excBase_ValueError T.x_NoFraction T.c_NoFraction T.k_NoFraction (raises_own T.bs_NoFraction T.ty_NoFraction) rfl)))
 pss_nil)
 (pss_cons (ps_if (pt_not (pt_val (pe_call (ok_is_part T) (hr.mono (by decide)) (by rfl) T.g_is_part T.F_is_part.kp T.b_is_part .nil pass0 (pa_cons (pe_tup (pa_cons (pv 2) (pa_cons (pv 3) pa_nil))) pa_nil))))
 (pss_one (ps_raise rfl (takes_of rfl rfl rfl rfl) (pmk_own PySem.F.excBase_ValueError T.x_NoFraction T.c_NoFraction T.k_NoFraction (raises_own T.bs_NoFraction T.ty_NoFraction) rfl)))
 pss_nil)
 (pss_one (ps_ret (pe_tup (pa_cons (pv 2) (pa_cons (pv 3) pa_nil))))))))))), ?_⟩
    refine ⟨_, rfl, ⟨_, rfl⟩, _, _, rfl, rfl, by decide +kernel, ?_, fun p hp => ?_⟩
    · exact Nat.le_trans (Nat.add_le_add_right hz 2) (by decide)
    have hs := same_new (o := .lst ((Txt.split z "/").map V.str)) hp
    have hsp := split_is z
    have hln := split_len z
    have hL : SqL K (upd H p (.lst ((Txt.split z "/").map V.str))) p ((Txt.split z "/").map V.str) := .inl (.inl upd_same)
    have hfree : ∀ q, (upd H p (.lst ((Txt.split z "/").map V.str))) q = none → H q = none := fun q h => hs.free h
    generalize upd H p (.lst ((Txt.split z "/").map V.str)) = H1 at *
    generalize Txt.split z "/" = ws at *
    refine ⟨_, rfl, _, _, rfl, .inl hL, rfl, _, rfl, ite2 (fun hd => ?_) (fun hd => ?_)⟩
    · refine k0 ?_ H1 hs
      unfold readO
      rw [← hsp]
      match ws, hd with
      | [], _ => rfl
      | [_], _ => rfl
      | [a, b], hd => cases hd
      | _ :: _ :: _ :: _, _ => rfl
    · obtain ⟨w0, w1, rfl⟩ : ∃ w0 w1, ws = [w0, w1] := by
        have h2 : (ws.map V.str).length = 2 := by
          have := nd (p := ¬ ((V.int ((ws.map V.str).length : Int)) = V.int 2)) (by simpa using hd)
          have h3 := V.int.inj (Decidable.not_not.mp this)
          omega
        rw [List.length_map] at h2
        match ws, h2 with
        | [a, b], _ => exact ⟨a, b, rfl⟩
      have hrd : readO (tl z) = match wholeO (tl w0), wholeO (tl w1) with
          | some t, some b => if b < 1 ∨ Nat.gcd t.natAbs b.natAbs ≠ 1 then none else some (t, b)
          | _, _ => none := by
        unfold readO
        rw [← hsp]
        rfl
      have l0 : w0.length ≤ 20000 := Nat.le_trans (hln w0 (by simp)) hz
      have l1 : w1.length ≤ 20000 := Nat.le_trans (hln w1 (by simp)) hz
      refine ⟨_, rfl, p, _, _, _, rfl, rfl, hL, atI_nat (j := 0) rfl, w0, rfl, l0, fun h0 => ?_, fun t h0 => ?_⟩
      · refine ⟨_, rfl, p, _, _, _, rfl, rfl, hL, atI_nat (j := 1) rfl, w1, rfl, l1, fun h1 => ?_, fun b h1 => ?_⟩
        · exact ⟨_, rfl, rfl, _, rfl, iteT (k0 (by rw [hrd, h0]) H1 hs)⟩
        · exact ⟨_, rfl, rfl, _, rfl, iteT (k0 (by rw [hrd, h0]) H1 hs)⟩
      · refine ⟨_, rfl, p, _, _, _, rfl, rfl, hL, atI_nat (j := 1) rfl, w1, rfl, l1, fun h1 => ?_, fun b h1 => ?_⟩
        · refine ⟨_, rfl, rfl, _, rfl, iteF ?_⟩
          exact ⟨_, rfl, rfl, _, rfl, iteT (k0 (by rw [hrd, h0, h1]) H1 hs)⟩
        · refine ⟨_, rfl, rfl, _, rfl, iteF ?_⟩
          refine ⟨_, rfl, rfl, _, rfl, iteF ?_⟩
          rw [h0, h1] at hrd
          have hrd' : readO (tl z) = if b < 1 ∨ Nat.gcd t.natAbs b.natAbs ≠ 1 then none else some (t, b) := hrd
          refine ⟨_, rfl, _, rfl, (by show 2 ≤ sizeLine; decide), fun u hu => ?_⟩
          have s9 := same_new (o := .tup [.int t, .int b]) hu
          have hu2 : SqT K (upd H1 u (.tup [.int t, .int b])) u [.int t, .int b] := .inl (.inl upd_same)
          have hfree2 : ∀ q, (upd H1 u (.tup [.int t, .int b])) q = none → H q = none := fun q h => (hs.trans s9).free h
          generalize upd H1 u (.tup [.int t, .int b]) = H2 at *
          refine ⟨u, t, b, rfl, hu2, _, rfl, ?_⟩
          by_cases hb : 0 < b ∧ Nat.gcd t.natAbs b.natAbs = 1
          · rw [decide_eq_true hb.1, decide_eq_true hb.2]
            refine iteF ?_
            refine ⟨_, rfl, _, rfl, (by show 2 ≤ sizeLine; decide), fun q hq => ?_⟩
            exact k1 t b (by rw [hrd', if_neg (by
              rintro (h | h)
              · omega
              · exact h hb.2)]) _ q ((hs.trans s9).trans (same_new hq)) (hfree2 q hq) upd_same
          · have e : (decide (0 < b) && decide (Nat.gcd t.natAbs b.natAbs = 1)) = false := by
              by_cases h0 : 0 < b
              · rw [decide_eq_true h0, decide_eq_false (fun h => hb ⟨h0, h⟩)]; rfl
              · rw [decide_eq_false h0]; rfl
            rw [e]
            refine iteT ?_
            exact k0 (by rw [hrd', if_pos (by
              by_cases h0 : b < 1
              · exact .inl h0
              · exact .inr fun h => hb ⟨by omega, h⟩)]) _ (hs.trans s9)
/-! ### the law's own reading -/
def numZ (L : List Nat) : Int := match numO L with
  | some n => n
  | none => -1
def sp_number : Sp := fun vs H Q _ => ∃ z : Str, vs = [.str z] ∧ z.length ≤ 20000 ∧ Q (.int (numZ (tl z))) H
theorem in_figs (c : Nat) : decide (c ∈ ("0123456789" : Str).cps.toList) = Dg c := by
  have e : ("0123456789" : Str).cps.toList = [48, 49, 50, 51, 52, 53, 54, 55, 56, 57] := by decide +kernel
  rw [e]
  unfold Dg
  by_cases h : 48 ≤ c ∧ c ≤ 57
  · rw [decide_eq_true h.1, decide_eq_true h.2]
    refine decide_eq_true ?_
    have : c = 48 ∨ c = 49 ∨ c = 50 ∨ c = 51 ∨ c = 52 ∨ c = 53 ∨ c = 54 ∨ c = 55 ∨ c = 56 ∨ c = 57 := by omega
    simpa using this
  · have h2 : (decide (48 ≤ c) && decide (c ≤ 57)) = false := by
      cases h1 : decide (48 ≤ c) with
      | false => rfl
      | true =>
        have := of_decide_eq_true h1
        rw [decide_eq_false (show ¬ c ≤ 57 by omega)]
        rfl
    rw [h2]
    refine decide_eq_false fun hm => h ?_
    have : c = 48 ∨ c = 49 ∨ c = 50 ∨ c = 51 ∨ c = 52 ∨ c = 53 ∨ c = 54 ∨ c = 55 ∨ c = 56 ∨ c = 57 := by simpa using hm
    omega
theorem all_take {L : List Nat} (h : ∀ (i : Nat) (c : Nat), L[i]? = some c → Dg c = true) : L.all Dg = true := by
  refine List.all_eq_true.mpr fun c hc => ?_
  obtain ⟨i, hi, e⟩ := List.mem_iff_getElem.mp hc
  exact h i c (by rw [List.getElem?_eq_getElem hi, e])
theorem ok__law_number (T : Env K mg) : FnOk P w K mg base CX0 1 T.a__law_number T.fd__law_number ["_law_word"] sp_number := by
  refine T.F__law_number.ok sc__law_number (fun vs H Q E h => ?_) (fun cdv A outer s H vs Q E hr h => ?_)
  · obtain ⟨z, rfl, _⟩ := h
    rfl
  · obtain ⟨z, rfl, hz, k⟩ := h
    refine ⟨_, (C8.pss_cut (ps_if (PW.pt (pw_or (pt_cmpR op_eq (pv 0) pe_str (nomark _)) (pw_or (pt_cmpR op_gt (pe_callB call_len_str (by rfl) T.m_len (by decide +kernel) (pa_cons (pv 0) pa_nil)) pe_int (nomark _)) (pw_or1 (PW.pt (pw_and (pt_cmpR op_gt (pe_callB call_len_str (by rfl) T.m_len (by decide +kernel) (pa_cons (pv 0) pa_nil)) pe_int (nomark _)) (pw_and1 (pt_cmpR op_eq (pe_ix ix_str (pv 0) pe_int (fun _ _ => rfl)) pe_str (nomark _)))))))))
 (pss_one (ps_ret (pe_un un_neg pe_int)))
 pss_nil)
 (pss_cons (ps_for PassesOwn.never rfl (pi_str (pv 0)) (pg_name (i := 1) sc__law_number.nd rfl (.inl rfl))
 (pss_one (ps_if (pt_cmpR op_notIn_sign (pv 1) pe_str (by rfl))
 (pss_one (ps_ret (pe_un un_neg pe_int)))
 pss_nil)))
 (pss_one (ps_ret (pe_callTy call_int_str (by rfl) T.m_int (by decide +kernel) (pa_cons (pv 0) pa_nil)))))), ?_⟩
    have en : tl ("" : Str) = [] := by decide +kernel
    have e0 : tl ("0" : Str) = [48] := by decide +kernel
    have no : (¬ ((tl z ≠ [] ∧ (tl z).length ≤ 400 ∧ (tl z).all Dg = true) ∧ ¬ (1 < (tl z).length ∧ (tl z).head? = some 48))) → numZ (tl z) = -1 := fun h => by
      unfold numZ numO
      rw [if_neg h]
    have neg1 : ∀ {t : Int}, t = -1 → Q (.int t) H → Q (.int (-1)) H := fun e h => by rw [← e]; exact h
    refine ⟨fun σ' H' => σ' = [some (.str z), none] ∧ H = H' ∧ tl z ≠ [] ∧ (tl z).length ≤ 400 ∧ ¬ (1 < (tl z).length ∧ (tl z).head? = some 48), ?_, ?_⟩
    · refine ⟨_, rfl, rfl, _, rfl, ?_⟩
      rw [str_dec, en]
      by_cases h1 : tl z = []
      · rw [decide_eq_true h1]
        refine iteT ?_
        refine iteT ?_
        exact ⟨_, rfl, neg1 (no (fun h => h.1.1 h1)) k⟩
      · rw [decide_eq_false h1]
        refine iteF ?_
        refine ⟨_, rfl, _, rfl, sz hz, _, _, rfl, rfl, _, rfl, ?_⟩
        by_cases h2 : (400 : Int) < (z.length : Int)
        · rw [decide_eq_true h2]
          refine iteT ?_
          refine iteT ?_
          exact ⟨_, rfl, neg1 (no (fun h => by have := h.1.2.1; rw [len_tlz] at this; omega)) k⟩
        · rw [decide_eq_false h2]
          refine iteF ?_
          have hl4 : (tl z).length ≤ 400 := by rw [len_tlz]; omega
          obtain ⟨c, r, hcr⟩ : ∃ c r, tl z = c :: r := by
            cases ht : tl z with
            | nil => exact absurd ht h1
            | cons c r => exact ⟨c, r, rfl⟩
          have hat : atI z.cps.toList 0 = some c := by
            refine atI_nat (j := 0) ?_
            show (tl z)[0]? = some c
            rw [hcr]
            rfl
          refine ⟨_, rfl, _, rfl, sz hz, _, _, rfl, rfl, _, rfl, ?_⟩
          by_cases h3 : (1 : Int) < (z.length : Int)
          · rw [decide_eq_true h3]
            refine iteT ?_
            refine ⟨_, rfl, _, _, _, rfl, rfl, sz hz, hat, rfl, _, rfl, ?_⟩
            rw [str_dec, e0]
            by_cases h4 : c = 48
            · rw [decide_eq_true (show tl (⟨#[c]⟩ : Str) = [48] by rw [h4])]
              refine iteT ?_
              exact ⟨_, rfl, neg1 (no (fun h => h.2 ⟨by rw [len_tlz]; omega, by rw [hcr, h4]; rfl⟩)) k⟩
            · rw [decide_eq_false (fun e => h4 (List.cons.inj (show [c] = [48] from e)).1)]
              refine iteF ?_
              exact ⟨rfl, rfl, h1, hl4, fun h => h4 (by rw [hcr] at h; exact Option.some.inj h.2)⟩
          · rw [decide_eq_false h3]
            refine iteF ?_
            refine iteF ?_
            exact ⟨rfl, rfl, h1, hl4, fun h => by have := h.1; rw [len_tlz] at this; omega⟩
    · rintro _ _ ⟨rfl, rfl, h1, hl4, hno⟩
      refine ⟨_, rfl, z, rfl, for_str (fun i σ H' => H = H' ∧ (∃ v, σ = [some (.str z), v]) ∧ ∀ (j : Nat) (c : Nat), j < i → (tl z)[j]? = some c → Dg c = true) ⟨rfl, ⟨_, rfl⟩, fun j c h => absurd h (by omega)⟩ ?_ ?_⟩
      · rintro i d σ _ hi ⟨rfl, ⟨v, rfl⟩, hp⟩
        refine ⟨_, rfl, d, _, rfl, rfl, _, rfl, ?_⟩
        rw [in_figs]
        cases hd : Dg d with
        | false =>
          refine iteT ?_
          exact ⟨_, rfl, neg1 (no (fun h => by
            have := List.all_eq_true.mp h.1.2.2 d (List.mem_of_getElem? hi)
            rw [hd] at this
            cases this)) k⟩
        | true =>
          refine iteF ?_
          refine ⟨rfl, ⟨_, rfl⟩, fun j e hj he => ?_⟩
          by_cases hji : j = i
          · subst hji
            rw [hi] at he
            cases he
            exact hd
          · exact hp j e (by omega) he
      · rintro σ _ ⟨rfl, ⟨v, rfl⟩, hp⟩
        have hall : (tl z).all Dg = true := all_take fun i c hi => hp i c (by
          have := (List.getElem?_eq_some_iff.mp hi).1
          rw [len_tlz] at this
          exact this) hi
        refine ⟨_, rfl, z, _, rfl, intText_digits (dg_all hall) h1 (by rw [← len_tlz]; omega), (by rw [← len_tlz]; omega), ?_⟩
        have e : numZ (tl z) = ((NumText.digitsVal (tl z) : Nat) : Int) := by
          unfold numZ numO
          rw [if_pos ⟨⟨h1, hl4, hall⟩, hno⟩]
        rw [← e]
        exact k

open TL (tl spl)
/-- the fraction that the plain reading tells -/
def sp_due : Sp := fun vs H Q _ => ∃ z : Str, vs = [.str z] ∧ z.length ≤ 20000 ∧ (dueO (tl z) = none → ∀ H', Same H H' → Q .non H') ∧
  ∀ t b, dueO (tl z) = some (t, b) → ∀ H' p, Same H H' → H p = none → H' p = some (.tup [.int t, .int b]) → Q (.ref p) H'
theorem cut_first (z : Str) : tl (cutS z none (some 1)) = (tl z).take 1 := by
  unfold cutS
  rw [show tl z = z.cps.toList from rfl]
  show ((z.cps.toList.drop (HT.sIx z.length 0 none)).take (HT.sIx z.length z.length (some 1) - HT.sIx z.length 0 none)) = _
  rw [HT.sIx_none, show HT.sIx z.length z.length (some 1) = min 1 z.length from HT.sIx_nat z.length z.length 1, List.drop_zero, Nat.sub_zero]
  have : z.cps.toList.length = z.length := Array.length_toList
  cases h : z.cps.toList with
  | nil => simp
  | cons c r =>
    rw [h, List.length_cons] at this
    rw [show min 1 z.length = 1 by omega]
theorem cut_rest (z : Str) : tl (cutS z (some 1) none) = (tl z).drop 1 := by
  unfold cutS
  rw [show tl z = z.cps.toList from rfl]
  show ((z.cps.toList.drop (HT.sIx z.length 0 (some 1))).take (HT.sIx z.length z.length none - HT.sIx z.length 0 (some 1))) = _
  rw [HT.sIx_none, show HT.sIx z.length 0 (some 1) = min 1 z.length from HT.sIx_nat z.length 0 1]
  have : z.cps.toList.length = z.length := Array.length_toList
  cases h : z.cps.toList with
  | nil => simp
  | cons c r =>
    rw [h, List.length_cons] at this
    rw [show min 1 z.length = 1 by omega]
    show (r.take (z.length - 1)) = r
    rw [← this, Nat.add_sub_cancel, List.take_length]
theorem numZ_some {L : List Nat} {n : Nat} (h : numO L = some n) : numZ L = n := by unfold numZ; rw [h]
theorem numZ_none {L : List Nat} (h : numO L = none) : numZ L = -1 := by unfold numZ; rw [h]
theorem low_one {t b : Nat} (hb : 0 < b) : decide (lowI (t : Int) (b : Int) = ((t : Int), (b : Int))) = decide (Nat.gcd t b = 1) := by
  by_cases h : Nat.gcd t b = 1
  · rw [decide_eq_true h]
    refine decide_eq_true ?_
    exact lowI_self ⟨by omega, by rw [Int.natAbs_natCast, Int.natAbs_natCast]; exact h⟩
  · rw [decide_eq_false h]
    refine decide_eq_false fun e => h ?_
    have := (lowI_ok (t := (t : Int)) (b := (b : Int)) (by omega)).1.one
    rw [e, Int.natAbs_natCast, Int.natAbs_natCast] at this
    exact this
theorem eqv_pair (a b c d : Int) : PyData.eqv (.tuple [.int a, .int b]) (.tuple [.int c, .int d]) = decide ((a, b) = (c, d)) := by
  show PyData.eqvAll [.int a, .int b] [.int c, .int d] = _
  simp [PyData.eqvAll, PyData.eqv]
  rfl
theorem ok__law_due (T : Env K mg) : FnOk P w K mg base CX0 2 T.a__law_due T.fd__law_due ["_law_line"] sp_due := by
  refine T.F__law_due.ok sc__law_due (fun vs H Q E h => ?_) (fun cdv A outer s H vs Q E hr h => ?_)
  · obtain ⟨z, rfl, _⟩ := h
    rfl
  · obtain ⟨z, rfl, hz, k0, k1⟩ := h
    refine ⟨_, (pss_cons (ps_set (i := 1) sc__law_due.nd rfl (.inl rfl) (pv 0))
 (C8.pss_cut (ps_if (pt_cmpR op_eq (pe_slice sl_str (pv 0) po_none (po_some pe_int)) pe_str (nomark _))
 (pss_one (ps_set (i := 1) sc__law_due.nd rfl (.inl rfl) (pe_slice sl_str (pv 0) (po_some pe_int) po_none)))
 pss_nil)
 (pss_cons (ps_set (i := 2) sc__law_due.nd rfl (.inl rfl) (pe_split (pv 1) pe_str))
 (pss_cons (ps_if (pt_cmpR op_ne (pe_callB call_len_seq (by rfl) T.m_len (by decide +kernel) (pa_cons (pv 2) pa_nil)) pe_int (nomark _))
 (pss_one (ps_ret pe_non))
 pss_nil)
 (pss_cons (ps_set (i := 3) sc__law_due.nd rfl (.inl rfl) (pe_call (ok__law_number T) (hr.mono (by decide)) (by rfl) T.g__law_number T.F__law_number.kp T.b__law_number .nil pass0 (pa_cons (pe_ix ix_list (pv 2) pe_int (fun _ _ => rfl)) pa_nil)))
 (pss_cons (ps_set (i := 4) sc__law_due.nd rfl (.inl rfl) (pe_call (ok__law_number T) (hr.mono (by decide)) (by rfl) T.g__law_number T.F__law_number.kp T.b__law_number .nil pass0 (pa_cons (pe_ix ix_list (pv 2) pe_int (fun _ _ => rfl)) pa_nil)))
 (C8.pss_cut (ps_if (PW.pt (pw_or (pt_cmpR op_lt (pv 3) pe_int (nomark _)) (pw_or (pt_cmpR op_lt (pv 4) pe_int (nomark _)) (pw_or1 (PW.pt (pw_and (pt_cmpR op_ne (pv 1) (pv 0) (nomark _)) (pw_and1 (pt_cmpR op_eq (pv 3) pe_int (nomark _)))))))))
 (pss_one (ps_ret pe_non))
 pss_nil)
 (pss_cons (ps_if (pt_cmpR (op_neD hr.units) (pe_call (ok__law_low T) (hr.mono (by decide)) (by rfl) T.g__law_low T.F__law_low.kp T.b__law_low .nil pass0 (pa_cons (pv 3) (pa_cons (pv 4) pa_nil))) (pe_tup (pa_cons (pv 3) (pa_cons (pv 4) pa_nil))) (nomark _))
 (pss_one (ps_ret pe_non))
 pss_nil)
 (pss_cons (ps_if (pt_cmpR op_ne (pv 1) (pv 0) (nomark _))
 (pss_one (ps_ret (pe_tup (pa_cons (pe_un un_neg (pv 3)) (pa_cons (pv 4) pa_nil)))))
 pss_nil)
 (pss_one (ps_ret (pe_tup (pa_cons (pv 3) (pa_cons (pv 4) pa_nil)))))))))))))), ?_⟩
    have em : tl ("-" : Str) = [45] := by decide +kernel
    -- the rest, and whether a '-' stood ahead
    refine ⟨_, rfl, ?_⟩
    refine ⟨fun σ' H' => H = H' ∧ ∃ (y : Str) (neg : Bool), σ' = [some (.str z), some (.str y), none, none, none] ∧ y.length ≤ 20000 ∧ dueO (tl z) = dueR neg (tl y) ∧ decide (tl y = tl z) = !neg, ?_, ?_⟩
    · refine ⟨_, rfl, 1, rfl, z, rfl, sz hz, rfl, _, rfl, ?_⟩
      rw [str_dec, cut_first, em]
      by_cases hh : (tl z).head? = some 45
      · obtain ⟨R, hR⟩ : ∃ R, tl z = 45 :: R := by
          cases hL : tl z with
          | nil => rw [hL] at hh; cases hh
          | cons d R => rw [hL] at hh; exact ⟨R, by rw [Option.some.inj hh]⟩
        rw [hR, decide_eq_true (show List.take 1 (45 :: R) = [45] from rfl)]
        refine iteT ?_
        refine ⟨_, rfl, 1, rfl, z, rfl, sz hz, rfl, _, true, rfl, Nat.le_trans (cutS_length _ _ _) hz, ?_, ?_⟩
        · rw [cut_rest, hR]; rfl
        · rw [cut_rest, hR]
          refine decide_eq_false fun e => ?_
          have := congrArg List.length (show R = 45 :: R from e)
          rw [List.length_cons] at this
          omega
      · rw [decide_eq_false (fun e => hh (by
          cases hL : tl z with
          | nil => rw [hL] at e; cases e
          | cons d R => rw [hL] at e; rw [(List.cons.inj (show [d] = [45] from e)).1]; rfl))]
        refine iteF ?_
        refine ⟨rfl, z, false, rfl, hz, ?_, decide_eq_true rfl⟩
        unfold dueO
        rw [if_neg hh]
    · rintro _ _ ⟨rfl, y, neg, rfl, hy, hdue, hneg⟩
      rw [hdue] at k0 k1
      refine ⟨_, rfl, ⟨_, rfl⟩, _, _, rfl, rfl, by decide +kernel, ?_, fun p hp => ?_⟩
      · exact Nat.le_trans (Nat.add_le_add_right hy 2) (by decide)
      have hs := same_new (o := .lst ((Txt.split y "/").map V.str)) hp
      have hsp := split_is y
      have hln := split_len y
      have hL : SqL K (upd H p (.lst ((Txt.split y "/").map V.str))) p ((Txt.split y "/").map V.str) := .inl (.inl upd_same)
      have hfree : ∀ q, (upd H p (.lst ((Txt.split y "/").map V.str))) q = none → H q = none := fun q h => hs.free h
      generalize upd H p (.lst ((Txt.split y "/").map V.str)) = H1 at *
      generalize Txt.split y "/" = ws at *
      refine ⟨_, rfl, _, _, rfl, .inl hL, rfl, _, rfl, ite2 (fun hd => ?_) (fun hd => ?_)⟩
      · refine k0 ?_ H1 hs
        unfold dueR
        rw [← hsp]
        match ws, hd with
        | [], _ => rfl
        | [_], _ => rfl
        | [a, b], hd => cases hd
        | _ :: _ :: _ :: _, _ => rfl
      · obtain ⟨w0, w1, rfl⟩ : ∃ w0 w1, ws = [w0, w1] := by
          have h2 : (ws.map V.str).length = 2 := by
            have := nd (p := ¬ ((V.int ((ws.map V.str).length : Int)) = V.int 2)) (by simpa using hd)
            have h3 := V.int.inj (Decidable.not_not.mp this)
            omega
          rw [List.length_map] at h2
          match ws, h2 with
          | [a, b], _ => exact ⟨a, b, rfl⟩
        have hrd : dueR neg (tl y) = match numO (tl w0), numO (tl w1) with
            | some t, some b => if b < 1 ∨ (neg = true ∧ t = 0) ∨ Nat.gcd t b ≠ 1 then none else some (if neg = true then -(t : Int) else (t : Int), (b : Int))
            | _, _ => none := by
          unfold dueR
          rw [← hsp]
          rfl
        have l0 : w0.length ≤ 20000 := Nat.le_trans (hln w0 (by simp)) hy
        have l1 : w1.length ≤ 20000 := Nat.le_trans (hln w1 (by simp)) hy
        refine ⟨_, rfl, p, _, _, _, rfl, rfl, hL, atI_nat (j := 0) rfl, w0, rfl, l0, ?_⟩
        refine ⟨_, rfl, p, _, _, _, rfl, rfl, hL, atI_nat (j := 1) rfl, w1, rfl, l1, ?_⟩
        refine ⟨fun σ' H' => H1 = H' ∧ ∃ t b : Nat, σ' = [some (.str z), some (.str y), some (.ref p), some (.int (t : Int)), some (.int (b : Int))] ∧ ¬ b < 1 ∧ b < 10 ^ 400 ∧ ¬ (neg = true ∧ t = 0) ∧
          dueR neg (tl y) = if Nat.gcd t b ≠ 1 then none else some (if neg = true then -(t : Int) else (t : Int), (b : Int)), ?_, ?_⟩
        · refine ⟨_, rfl, _, _, rfl, rfl, _, rfl, ?_⟩
          cases h0 : numO (tl w0) with
          | none =>
            rw [numZ_none h0, decide_eq_true (show (-1 : Int) < 0 by decide)]
            refine iteT ?_
            exact iteT (k0 (by rw [hrd, h0]) H1 hs)
          | some t =>
            rw [numZ_some h0, decide_eq_false (show ¬ (t : Int) < 0 by omega)]
            refine iteF ?_
            refine ⟨_, rfl, _, _, rfl, rfl, _, rfl, ?_⟩
            cases h1 : numO (tl w1) with
            | none =>
              rw [numZ_none h1, decide_eq_true (show (-1 : Int) < 1 by decide)]
              refine iteT ?_
              exact iteT (k0 (by rw [hrd, h0, h1]) H1 hs)
            | some b =>
              rw [h0, h1] at hrd
              have hrd' : dueR neg (tl y) = if b < 1 ∨ (neg = true ∧ t = 0) ∨ Nat.gcd t b ≠ 1 then none else some (if neg = true then -(t : Int) else (t : Int), (b : Int)) := hrd
              rw [numZ_some h1]
              by_cases hb : (b : Int) < 1
              · rw [decide_eq_true hb]
                refine iteT ?_
                exact iteT (k0 (by rw [hrd', if_pos (.inl (by omega))]) H1 hs)
              · rw [decide_eq_false hb]
                refine iteF ?_
                refine ⟨_, rfl, _, rfl, rfl, _, rfl, ?_⟩
                rw [str_dec, hneg, Bool.not_not]
                have good : ¬ (neg = true ∧ t = 0) → dueR neg (tl y) = if Nat.gcd t b ≠ 1 then none else some (if neg = true then -(t : Int) else (t : Int), (b : Int)) := fun hn => by
                  rw [hrd']
                  by_cases hg : Nat.gcd t b ≠ 1
                  · rw [if_pos hg, if_pos (.inr (.inr hg))]
                  · rw [if_neg hg, if_neg (by
                      rintro (h | h | h)
                      · omega
                      · exact hn h
                      · exact hg h)]
                cases hneg2 : neg with
                | false =>
                  subst hneg2
                  refine iteF ?_
                  refine iteF ?_
                  exact ⟨rfl, t, b, rfl, by omega, num_lt h1, (fun h => absurd h.1 Bool.false_ne_true), good (fun h => absurd h.1 Bool.false_ne_true)⟩
                | true =>
                  subst hneg2
                  refine iteT ?_
                  refine ⟨_, rfl, rfl, _, rfl, ?_⟩
                  by_cases ht : t = 0
                  · rw [decide_eq_true (show V.int (t : Int) = V.int 0 by rw [ht]; rfl)]
                    refine iteT ?_
                    exact k0 (by rw [hrd', if_pos (.inr (.inl ⟨rfl, ht⟩))]) H1 hs
                  · rw [decide_eq_false (fun e => ht (by have := V.int.inj e; omega))]
                    refine iteF ?_
                    exact ⟨rfl, t, b, rfl, by omega, num_lt h1, fun h => ht h.2, good (fun h => ht h.2)⟩
        · rintro _ _ ⟨rfl, t, b, rfl, hb, hbl, hn, hrd'⟩
          have tb : ((b : Int)).natAbs.log2 < 9000 := by
            rw [Int.natAbs_natCast]
            exact log_small (b := 1400) (by decide) (Nat.lt_of_lt_of_le hbl p400) (by decide)
          refine ⟨_, rfl, _, rfl, (t : Int), (b : Int), rfl, by omega, tb, fun q hq => ?_⟩
          have s2 := same_new (o := .tup [.int (lowI (t : Int) (b : Int)).1, .int (lowI (t : Int) (b : Int)).2]) hq
          have hq1 : (upd H1 q (.tup [.int (lowI (t : Int) (b : Int)).1, .int (lowI (t : Int) (b : Int)).2])) q = some _ := upd_same
          generalize upd H1 q (.tup [.int (lowI (t : Int) (b : Int)).1, .int (lowI (t : Int) (b : Int)).2]) = H2 at *
          refine ⟨_, rfl, _, rfl, (by show 2 ≤ sizeLine; decide), fun r hr2 => ?_⟩
          have s3 := same_new (o := .tup [.int (t : Int), .int (b : Int)]) hr2
          have hS : Same H _ := hs.trans (s2.trans s3)
          refine ⟨_, _, .tup (.inl (.inl (s3 _ _ hq1))) (.cons (.int _) (.cons (.int _) .nil)), .tup (.inl (.inl upd_same)) (.cons (.int _) (.cons (.int _) .nil)), rfl, rfl, ?_⟩
          rw [eqv_pair]
          refine ⟨_, rfl, ?_⟩
          show if (!decide (lowI (t : Int) (b : Int) = ((t : Int), (b : Int)))) = true then _ else _
          rw [low_one (by omega)]
          by_cases hg : Nat.gcd t b = 1
          · rw [decide_eq_true hg]
            refine iteF ?_
            rw [if_neg (fun h => h hg)] at hrd'
            refine ⟨_, rfl, _, rfl, rfl, _, rfl, ?_⟩
            rw [str_dec, hneg, Bool.not_not]
            cases hneg2 : neg with
            | true =>
              subst hneg2
              refine iteT ?_
              refine ⟨_, rfl, _, rfl, _, rfl, (by show 2 ≤ sizeLine; decide), fun q2 hq2 => ?_⟩
              exact k1 (-(t : Int)) (b : Int) hrd' _ q2 (hS.trans (same_new hq2)) (hS.free hq2) upd_same
            | false =>
              subst hneg2
              refine iteF ?_
              refine ⟨_, rfl, _, rfl, (by show 2 ≤ sizeLine; decide), fun q2 hq2 => ?_⟩
              exact k1 (t : Int) (b : Int) hrd' _ q2 (hS.trans (same_new hq2)) (hS.free hq2) upd_same
          · rw [decide_eq_false hg]
            refine iteT ?_
            exact k0 (by rw [hrd', if_pos hg]) _ hS

open TL (tl spl)
/-! ### part_text -/
theorem int_len {i : Int} {k : Nat} (hk : 0 < k) (h : i.natAbs < 2 ^ k) : (Str.ofString (toString i)).length ≤ k + 1 := by
  rw [PyProof.Rows.ofString_len]
  exact int_text_length_le hk (PySem.Flt.log2_lt_of hk h)
theorem app_len (x y : Str) : (x ++ y).length = x.length + y.length := by
  rw [TL.len_tl, TL.tl_append, List.length_append, ← TL.len_tl, ← TL.len_tl]
def partT (x y : Int) : Str := Str.ofString (toString x) ++ ("/" : Str) ++ Str.ofString (toString y)
theorem partT_len {x y : Int} (hx : x.natAbs < 2 ^ 1000) (hy : y.natAbs < 2 ^ 1000) : (partT x y).length ≤ 3000 := by
  unfold partT
  have h1 := int_len (by decide) hx
  have h2 := int_len (by decide) hy
  have e : (("/" : Str)).length = 1 := by decide +kernel
  rw [app_len, app_len, e]
  omega
theorem empty_add (x : Str) : Str.empty ++ x = x := TL.ext_tl (by rw [TL.tl_append]; rfl)
def sp_text (K : PySem.W.Frag) : Sp := fun vs H Q _ => ∃ (p : Addr) (x y : Int), vs = [.ref p] ∧ SqT K H p [.int x, .int y] ∧ x.natAbs < 2 ^ 1000 ∧ y.natAbs < 2 ^ 1000 ∧ Q (.str (partT x y)) H
theorem lg {i : Int} (h : i.natAbs < 2 ^ 1000) : i.natAbs.log2 < 1920 := Nat.lt_of_lt_of_le (PySem.Flt.log2_lt_of (by decide) h) (by decide)
theorem ok_part_text (T : Env K mg) : FnOk P w K mg base CX0 1 T.a_part_text T.fd_part_text ["one"] (sp_text K) := by
  refine T.F_part_text.ok sc_part_text (fun vs H Q E h => ?_) (fun cdv A outer s H vs Q E hr h => ?_)
  · obtain ⟨p, x, y, rfl, _⟩ := h
    rfl
  · obtain ⟨p, x, y, rfl, hp, hx, hy, k⟩ := h
    refine ⟨_, (pss_one (ps_ret (pe_joined (.cons (pe_fmt (pe_ix ix_tup (pv 0) pe_int (fun _ _ => rfl))) (.cons pe_str (.cons (pe_fmt (pe_ix ix_tup (pv 0) pe_int (fun _ _ => rfl))) .nil)))))), ?_⟩
    have h1 := int_len (by decide) hx
    have h2 := int_len (by decide) hy
    have h3 := partT_len hx hy
    have e : (("/" : Str)).length = 1 := by decide +kernel
    refine ⟨_, rfl, p, _, _, _, rfl, rfl, hp, atI_nat (j := 0) rfl, .inr ⟨x, rfl, lg hx, _, rfl, ?_, ?_⟩⟩
    · rw [empty_add]; exact sz (m := 2000) (by omega)
    refine ⟨_, rfl, ?_, ?_⟩
    · rw [empty_add, app_len, e]; exact sz (m := 2000) (by omega)
    refine ⟨_, rfl, p, _, _, _, rfl, rfl, hp, atI_nat (j := 1) rfl, .inr ⟨y, rfl, lg hy, _, rfl, ?_, ?_⟩⟩
    · rw [empty_add]
      exact sz (m := 3000) h3
    · show Q (.str (Str.empty ++ Str.ofString (toString x) ++ ("/" : Str) ++ Str.ofString (toString y))) H
      rw [empty_add]
      exact k
/-! ### odd and spoilt texts -/
inductive AllT : List V → Prop where
  | nil : AllT []
  | cons {z : Str} {l : List V} (h : z.length ≤ 6000) (r : AllT l) : AllT (.str z :: l)
theorem AllT.app : ∀ {l m : List V}, AllT l → AllT m → AllT (l ++ m)
  | _, _, .nil, h => h
  | _, _, .cons h r, k => .cons h (r.app k)
theorem AllT.at : ∀ {l : List V}, AllT l → ∀ {i : Nat}, i < l.length → ∃ z, l[i]? = some (.str z) ∧ z.length ≤ 6000
  | _, .nil, i, h => absurd h (by simp)
  | _, .cons (z := z) h r, 0, _ => ⟨z, rfl, h⟩
  | _, .cons h r, i + 1, hi => r.at (i := i) (by rw [List.length_cons] at hi; omega)
theorem lit {z : Str} (h : decide (z.length ≤ 6000) = true) : z.length ≤ 6000 := of_decide_eq_true h
theorem mul_len (n : Nat) : (Txt.mul "1" (n : Int)).length ≤ n := PyProof.Rows.len_mul_one (y := "1") (c := 49) (by decide +kernel) (Int.le_refl _)
theorem add_len {x y : Str} {a b : Nat} (hx : x.length ≤ a) (hy : y.length ≤ b) (h : a + b ≤ 6000) : (x ++ y).length ≤ 6000 := by rw [app_len]; omega
def sp_odd : Sp := fun vs H Q _ => ∃ i : Int, vs = [.int i] ∧ 0 ≤ i ∧ ∀ H' z, Same H H' → z.length ≤ 6000 → Q (.str z) H'
theorem ok__law_odd (T : Env K mg) : FnOk P w K mg base CX0 1 T.a__law_odd T.fd__law_odd ["_law_one"] sp_odd := by
  refine T.F__law_odd.ok sc__law_odd (fun vs H Q E h => ?_) (fun cdv A outer s H vs Q E hr h => ?_)
  · obtain ⟨i, rfl, _⟩ := h
    rfl
  · obtain ⟨i, rfl, hi, k⟩ := h
    refine ⟨_, (pss_cons (ps_set (i := 1) sc__law_odd.nd rfl (.inl rfl) (pe_lst (pa_cons pe_str (pa_cons pe_str (pa_cons pe_str (pa_cons pe_str (pa_cons pe_str (pa_cons pe_str (pa_cons pe_str (pa_cons pe_str (pa_cons pe_str (pa_cons pe_str (pa_cons pe_str (pa_cons pe_str (pa_cons pe_str (pa_cons pe_str (pa_cons pe_str pa_nil)))))))))))))))))
 (pss_cons (ps_set (i := 1) sc__law_odd.nd rfl (.inl rfl) (pe_op op_cat (pv 1) (pe_lst (pa_cons pe_str (pa_cons pe_str (pa_cons pe_str (pa_cons pe_str (pa_cons pe_str (pa_cons pe_str (pa_cons pe_str (pa_cons (pe_op op_add_str pe_str (pe_op op_mul_str pe_str pe_int)) (pa_cons (pe_op op_add_str (pe_op op_mul_str pe_str pe_int) pe_str) pa_nil))))))))))))
 (pss_cons (ps_set (i := 1) sc__law_odd.nd rfl (.inl rfl) (pe_op op_cat (pv 1) (pe_lst (pa_cons (pe_op op_add_str (pe_op op_add_str pe_str (pe_op op_mul_str pe_str pe_int)) pe_str) (pa_cons (pe_op op_add_str pe_str (pe_op op_mul_str pe_str pe_int)) (pa_cons (pe_op op_add_str pe_str (pe_op op_mul_str pe_str pe_int)) (pa_cons (pe_op op_add_str (pe_op op_add_str pe_str (pe_op op_mul_str pe_str pe_int)) pe_str) pa_nil)))))))
 (pss_cons (ps_set (i := 1) sc__law_odd.nd rfl (.inl rfl) (pe_op op_cat (pv 1) (pe_lst (pa_cons pe_str (pa_cons pe_str (pa_cons (pe_op op_add_str pe_str (pe_op op_mul_str pe_str pe_int)) (pa_cons (pe_op op_add_str (pe_op op_add_str pe_str (pe_op op_mul_str pe_str pe_int)) pe_str) pa_nil)))))))
 (pss_one (ps_ret (pe_ix ix_list (pv 1) (pe_op op_mod (pv 0) pe_int) (fun _ _ => rfl)))))))), ?_⟩
    have mk : ∀ n : Nat, 2 ≤ n → n ≤ 5000 → PySem.MulOk "1" (n : Int) := fun n h2 hn => ⟨by
      rw [decide_eq_false (show ¬ ((n : Int) < -(2 ^ 63 : Int)) by omega), decide_eq_false (show ¬ ((n : Int) ≥ 2 ^ 63) by omega)]
      rfl, fun _ _ => by
        have e : (("1" : Str)).length = 1 := by decide +kernel
        rw [e]
        have : (1 : Int) ≤ (2 ^ 63 - 1) / (n : Int) := by
          rw [Int.le_ediv_iff_mul_le (by omega)]
          omega
        omega, fun _ _ => by
        have e : (("1" : Str)).length = 1 := by decide +kernel
        rw [e]
        unfold PySem.Builtin.Str.tooLong
        refine decide_eq_false ?_
        rw [sizeLine_eq]
        omega⟩
    have l1 : (("1/" : Str)).length ≤ 3 := by decide +kernel
    have l2 : (("/1" : Str)).length ≤ 3 := by decide +kernel
    have l3 : (("-" : Str)).length ≤ 3 := by decide +kernel
    have l4 : (("-1/" : Str)).length ≤ 3 := by decide +kernel
    have m4 := mul_len 400
    have m41 := mul_len 401
    have m5 := mul_len 5000
    have sL : ∀ {x y : Str} {a b : Nat}, x.length ≤ a → y.length ≤ b → a + b ≤ 6000 → x.length + y.length ≤ sizeLine := fun hx hy h => sz (m := 6000) (by omega)
    have three : ∀ {x y : Str}, x.length ≤ 3 → y.length ≤ 400 → (x ++ y).length ≤ 403 := fun hx hy => by rw [app_len]; omega
    have three1 : ∀ {x y : Str}, x.length ≤ 3 → y.length ≤ 401 → (x ++ y).length ≤ 404 := fun hx hy => by rw [app_len]; omega
    have three5 : ∀ {x y : Str}, x.length ≤ 3 → y.length ≤ 5000 → (x ++ y).length ≤ 5003 := fun hx hy => by rw [app_len]; omega
    refine ⟨(by show 15 ≤ sizeLine; decide), fun p1 n1 => ?_⟩
    generalize hX : upd H p1 _ = H1
    have s1 : Same H H1 := by rw [← hX]; exact same_new n1
    have st1 : ∃ L, H1 p1 = some (.lst L) ∧ AllT L ∧ L.length = 15 := ⟨_, by rw [← hX]; exact upd_same, by (repeat (refine .cons (lit (by decide +kernel)) ?_)); exact .nil, rfl⟩
    clear hX
    obtain ⟨L1, e1, a1, hl1⟩ := st1
    refine ⟨_, rfl, _, _, rfl, rfl, mk 401 (by decide) (by decide), _, _, rfl, rfl, sL l1 m41 (by decide), _, _, rfl, rfl, mk 400 (by decide) (by decide), _, _, rfl, rfl, sL m4 l2 (by decide), (by show 9 ≤ sizeLine; decide), fun p2 n2 => ?_⟩
    refine ⟨p1, p2, L1, _, rfl, rfl, (same_new n2) _ _ e1, upd_same, ?_, fun p3 n3 => ?_⟩
    · rw [hl1]; show 15 + 9 ≤ sizeLine; decide
    generalize hX : upd (upd H1 p2 _) p3 _ = H2
    have s2 : Same H H2 := by rw [← hX]; exact s1.trans ((same_new n2).trans (same_new n3))
    have st2 : ∃ L, H2 p3 = some (.lst L) ∧ AllT L ∧ L.length = 24 := ⟨_, by rw [← hX]; exact upd_same, a1.app (by
      (repeat (refine .cons (lit (by decide +kernel)) ?_))
      exact .nil), by rw [List.length_append, hl1]; rfl⟩
    clear hX
    obtain ⟨L2, e2, a2, hl2⟩ := st2
    refine ⟨_, rfl, _, _, rfl, rfl, mk 400 (by decide) (by decide), _, _, rfl, rfl, sL l3 m4 (by decide), _, _, rfl, rfl, sL (three l3 m4) l2 (by decide), _, _, rfl, rfl, mk 400 (by decide) (by decide), _, _, rfl, rfl, sL l1 m4 (by decide), ?_⟩
    refine ⟨_, _, rfl, rfl, mk 401 (by decide) (by decide), _, _, rfl, rfl, sL l4 m41 (by decide), _, _, rfl, rfl, mk 401 (by decide) (by decide), _, _, rfl, rfl, sL l3 m41 (by decide), _, _, rfl, rfl, sL (three1 l3 m41) l2 (by decide), (by show 4 ≤ sizeLine; decide), fun p4 n4 => ?_⟩
    refine ⟨p3, p4, L2, _, rfl, rfl, (same_new n4) _ _ e2, upd_same, ?_, fun p5 n5 => ?_⟩
    · rw [hl2]; show 24 + 4 ≤ sizeLine; decide
    generalize hX : upd (upd H2 p4 _) p5 _ = H3
    have s3 : Same H H3 := by rw [← hX]; exact s2.trans ((same_new n4).trans (same_new n5))
    have st3 : ∃ L, H3 p5 = some (.lst L) ∧ AllT L ∧ L.length = 28 := ⟨_, by rw [← hX]; exact upd_same, a2.app
      (.cons (add_len (three l3 m4) l2 (by decide)) (.cons (Nat.le_trans (three l1 m4) (by decide)) (.cons (Nat.le_trans (three1 l4 m41) (by decide)) (.cons (add_len (three1 l3 m41) l2 (by decide)) .nil)))), by rw [List.length_append, hl2]; rfl⟩
    clear hX
    obtain ⟨L3, e3, a3, hl3⟩ := st3
    refine ⟨_, rfl, _, _, rfl, rfl, mk 5000 (by decide) (by decide), _, _, rfl, rfl, sL l1 m5 (by decide), _, _, rfl, rfl, mk 5000 (by decide) (by decide), _, _, rfl, rfl, sL l3 m5 (by decide), _, _, rfl, rfl, sL (three5 l3 m5) l2 (by decide), (by show 4 ≤ sizeLine; decide), fun p6 n6 => ?_⟩
    refine ⟨p5, p6, L3, _, rfl, rfl, (same_new n6) _ _ e3, upd_same, ?_, fun p7 n7 => ?_⟩
    · rw [hl3]; show 28 + 4 ≤ sizeLine; decide
    generalize hX : upd (upd H3 p6 _) p7 _ = H4
    have s4 : Same H H4 := by rw [← hX]; exact s3.trans ((same_new n6).trans (same_new n7))
    have st4 : ∃ L, H4 p7 = some (.lst L) ∧ AllT L ∧ L.length = 32 := ⟨_, by rw [← hX]; exact upd_same, a3.app
      (.cons (lit (by decide +kernel)) (.cons (lit (by decide +kernel)) (.cons (Nat.le_trans (three5 l1 m5) (by decide)) (.cons (add_len (three5 l3 m5) l2 (by decide)) .nil)))), by rw [List.length_append, hl3]; rfl⟩
    clear hX
    obtain ⟨L4, e4, a4, hl4⟩ := st4
    have hm : (i % 32).toNat < L4.length := by rw [hl4]; omega
    obtain ⟨z, hz, hzl⟩ := a4.at hm
    refine ⟨_, rfl, _, rfl, _, _, rfl, rfl, (by show (0 : Int) < _; decide), p7, L4, _, .str z, rfl, rfl, .inl (.inl e4), ?_, k H4 z s4 hzl⟩
    have e : (i % 32) = ((i % 32).toNat : Int) := by omega
    rw [e]
    exact atI_nat hz
theorem at_in {α : Type} {L : List α} {n : Nat} (hl : L.length = n) {i : Int} (h0 : 0 ≤ i) (h1 : i < (n : Int)) : ∃ c, atI L i = some c := by
  obtain ⟨j, rfl⟩ := Int.eq_ofNat_of_zero_le h0
  have hj : j < L.length := by rw [hl]; omega
  exact ⟨L[j], atI_nat (List.getElem?_eq_getElem hj)⟩
def sp_spoilt (K : PySem.W.Frag) : Sp := fun vs H Q _ => ∃ (z : Str) (p : Addr) (r0 r1 r2 r3 r4 r5 r6 r7 : Int), vs = [.str z, .ref p] ∧ z.length ≤ 6000 ∧ SqL K H p ([r0, r1, r2, r3, r4, r5, r6, r7].map V.int) ∧ 0 ≤ r3 ∧ 0 ≤ r4 ∧ ∀ y : Str, y.length ≤ 12001 → Q (.str y) H
theorem ok__law_spoilt (T : Env K mg) : FnOk P w K mg base CX0 1 T.a__law_spoilt T.fd__law_spoilt ["_law_line", "_law_row"] (sp_spoilt K) := by
  refine T.F__law_spoilt.ok sc__law_spoilt (fun vs H Q E h => ?_) (fun cdv A outer s H vs Q E hr h => ?_)
  · obtain ⟨z, p, r0, r1, r2, r3, r4, r5, r6, r7, rfl, _⟩ := h
    rfl
  · obtain ⟨z, p, r0, r1, r2, r3, r4, r5, r6, r7, rfl, hz, hR, h3, h4, k⟩ := h
    refine ⟨_, (pss_cons (ps_set (i := 2) sc__law_spoilt.nd rfl (.inl rfl) (pe_op op_mod (pe_ix ix_list (pv 1) pe_int (fun _ _ => rfl)) (pe_op op_add (pe_callB call_len_str (by rfl) T.m_len (by decide +kernel) (pa_cons (pv 0) pa_nil)) pe_int)))
 (pss_cons (ps_set (i := 3) sc__law_spoilt.nd rfl (.inl rfl) (pe_ix ix_str pe_str (pe_op op_mod (pe_ix ix_list (pv 1) pe_int (fun _ _ => rfl)) pe_int) (fun _ _ => rfl)))
 (pss_cons (ps_if (pt_cmpR op_eq (pe_op op_mod (pe_ix ix_list (pv 1) pe_int (fun _ _ => rfl)) pe_int) pe_int (nomark _))
 (pss_one (ps_ret (pe_op op_add_str (pe_op op_add_str (pe_slice sl_str (pv 0) po_none (po_some (pv 2))) (pv 3)) (pe_slice sl_str (pv 0) (po_some (pv 2)) po_none))))
 pss_nil)
 (pss_cons (ps_if (pt_cmpR op_eq (pe_op op_mod (pe_ix ix_list (pv 1) pe_int (fun _ _ => rfl)) pe_int) pe_int (nomark _))
 (pss_one (ps_ret (pe_op op_add_str (pe_op op_add_str (pe_slice sl_str (pv 0) po_none (po_some (pv 2))) (pv 3)) (pe_slice sl_str (pv 0) (po_some (pe_op op_add (pv 2) pe_int)) po_none))))
 pss_nil)
 (pss_one (ps_ret (pe_op op_add_str (pe_slice sl_str (pv 0) po_none (po_some (pv 2))) (pe_slice sl_str (pv 0) (po_some (pe_op op_add (pv 2) pe_int)) po_none)))))))), ?_⟩
    have zz : z.length ≤ sizeLine := sz hz
    refine ⟨_, rfl, p, _, _, _, rfl, rfl, hR, atI_nat (j := 3) rfl, _, rfl, _, rfl, zz, _, _, rfl, rfl, _, _, rfl, rfl, (by show (0 : Int) < (z.length : Int) + 1; omega), ?_⟩
    have hs : ∃ c, atI (("0123789-/ +.\na_" : Str).cps.toList) (r4 % 15) = some c := by
      exact at_in (n := 15) (by decide +kernel) (by omega) (by omega)
    obtain ⟨c, hc⟩ := hs
    refine ⟨_, rfl, p, _, _, _, rfl, rfl, hR, atI_nat (j := 4) rfl, _, _, rfl, rfl, (by show (0 : Int) < _; decide), _, _, c, rfl, rfl, sz (m := 100) (by decide +kernel), hc, ?_⟩
    have c1 : ∀ a b, (cutS z a b).length ≤ 6000 := fun a b => Nat.le_trans (cutS_length _ _ _) hz
    have one : (⟨#[c]⟩ : Str).length = 1 := rfl
    have j1 : ∀ a b, (cutS z a b).length + (⟨#[c]⟩ : Str).length ≤ sizeLine := fun a b => by have := c1 a b; rw [one]; exact sz (m := 6001) (by omega)
    have j2 : ∀ a b a' b', (cutS z a b ++ ⟨#[c]⟩).length + (cutS z a' b').length ≤ sizeLine := fun a b a' b' => by have := c1 a b; have := c1 a' b'; rw [app_len, one]; exact sz (m := 12001) (by omega)
    have j3 : ∀ a b a' b', (cutS z a b).length + (cutS z a' b').length ≤ sizeLine := fun a b a' b' => by have := c1 a b; have := c1 a' b'; exact sz (m := 12001) (by omega)
    have j4 : ∀ a b a' b', (cutS z a b ++ ⟨#[c]⟩ ++ cutS z a' b').length ≤ 12001 := fun a b a' b' => by have := c1 a b; have := c1 a' b'; rw [app_len, app_len, one]; omega
    have j5 : ∀ a b a' b', (cutS z a b ++ cutS z a' b').length ≤ 12001 := fun a b a' b' => by have := c1 a b; have := c1 a' b'; rw [app_len]; omega
    refine ⟨_, rfl, p, _, _, _, rfl, rfl, hR, atI_nat (j := 2) rfl, _, _, rfl, rfl, (by show (0 : Int) < _; decide), rfl, _, rfl, ite2 (fun _ => ?_) (fun _ => ?_)⟩
    · exact ⟨_, rfl, _, rfl, _, rfl, z, rfl, zz, _, rfl, _, _, rfl, rfl, j1 _ _, _, rfl, _, rfl, _, rfl, z, rfl, zz, _, _, rfl, rfl, j2 _ _ _ _, k _ (j4 _ _ _ _)⟩
    · refine ⟨_, rfl, p, _, _, _, rfl, rfl, hR, atI_nat (j := 2) rfl, _, _, rfl, rfl, (by show (0 : Int) < _; decide), rfl, _, rfl, ite2 (fun _ => ?_) (fun _ => ?_)⟩
      · exact ⟨_, rfl, _, rfl, _, rfl, z, rfl, zz, _, rfl, _, _, rfl, rfl, j1 _ _, _, rfl, _, rfl, _, _, rfl, rfl, _, rfl, z, rfl, zz, _, _, rfl, rfl, j2 _ _ _ _, k _ (j4 _ _ _ _)⟩
      · exact ⟨_, rfl, _, rfl, _, rfl, z, rfl, zz, _, rfl, _, rfl, _, _, rfl, rfl, _, rfl, z, rfl, zz, _, _, rfl, rfl, j3 _ _ _ _, k _ (j5 _ _ _ _)⟩

open TL (tl spl)
theorem Same.tup {K : PySem.W.Frag} {H H' : Hp} {a : Addr} {xs : List V} (e : Same H H') (h : H a = some (.tup xs)) : SqT K H' a xs := .inl (.inl (e _ _ h))
theorem lt_mul {i j : Int} {a b n : Nat} (ha : i.natAbs < 2 ^ a) (hb : j.natAbs < 2 ^ b) (h : a + b ≤ n) : (i * j).natAbs < 2 ^ n :=
  Nat.lt_of_lt_of_le (wide_lt ha hb) (Nat.pow_le_pow_right (by decide) h)
theorem mulW {i j : Int} {a b : Nat} (ha : i.natAbs < 2 ^ a) (hb : j.natAbs < 2 ^ b) (h0 : 0 < a) (h1 : 0 < b) (h : a + b ≤ 1000000) : IntMulOk i j := (wide_mul ha hb h0 h1 h).ok
/-- a fraction that stands at p, of few figures -/
structure Fr (H : Hp) (p : Addr) (n : Nat) : Prop where
  ex : ∃ x y : Int, H p = some (.tup [.int x, .int y]) ∧ Low x y ∧ x.natAbs < 2 ^ n ∧ y.natAbs < 2 ^ n
theorem fr_new {H : Hp} {p : Addr} {t b : Int} {n : Nat} (hb : b ≠ 0) (ht : t.natAbs < 2 ^ n) (hbb : b.natAbs < 2 ^ n) : Fr (upd H p (.tup [.int (lowI t b).1, .int (lowI t b).2])) p n := by
  obtain ⟨hL, hx, hy1, hx1⟩ := lowI_ok (t := t) hb
  exact ⟨_, _, upd_same, hL, Nat.lt_of_le_of_lt hx1 ht, Nat.lt_of_le_of_lt hy1 hbb⟩
theorem Fr.up {H : Hp} {p : Addr} {n m : Nat} (h : Fr H p n) (l : n ≤ m) : Fr H p m := by
  obtain ⟨x, y, h1, h2, h3, h4⟩ := h.ex
  have := Nat.pow_le_pow_right (show 0 < 2 by decide) l
  exact ⟨x, y, h1, h2, by omega, by omega⟩
/-- what the plain reading tells is in lowest terms, and small -/
theorem due_low {L : List Nat} {t b : Int} (h : readO L = some (t, b)) : Low t b ∧ t.natAbs < 2 ^ 1400 ∧ b.natAbs < 2 ^ 1400 := by
  unfold readO at h
  split at h
  · split at h
    · rename_i t' b' ht hb
      split at h
      · cases h
      · rename_i hc
        cases h
        refine ⟨⟨?_, ?_⟩, Nat.lt_of_lt_of_le (whole_lt ht) p400, Nat.lt_of_lt_of_le (whole_lt hb) p400⟩
        · have : ¬ b < 1 := fun z => hc (.inl z)
          omega
        · exact Decidable.not_not.mp (fun z => hc (.inr z))
    · cases h
  · cases h
def sp_law (K : PySem.W.Frag) : Sp := fun vs H Q _ => ∃ (a : Addr) (ns : List Int), vs = [.ref a] ∧ SqL K H a (ns.map V.int) ∧ ns.length ≤ 63 ∧ ∀ H', Q (.bl true) H'
theorem ok_law (T : Env K mg) : FnOk P w K mg base CX0 4 T.a_law T.fd_law ["_law_script"] (sp_law K) := by
  refine T.F_law.ok sc_law (fun vs H Q E h => ?_) (fun cdv A outer s H vs Q E hr h => ?_)
  · obtain ⟨a, ns, rfl, _⟩ := h
    rfl
  · obtain ⟨a, ns, rfl, hS, hl, q⟩ := h
    refine ⟨_, (pss_cons (ps_set (i := 1) sc_law.nd rfl (.inl rfl) (pe_call (ok__law_flow T) (hr.mono (by decide)) (by rfl) T.g__law_flow T.F__law_flow.kp T.b__law_flow .nil pass0 (pa_cons (pv 0) (pa_cons pe_int pa_nil))))
 (pss_cons (ps_set (i := 2) sc_law.nd rfl (.inl rfl) (pe_call (ok__law_low T) (hr.mono (by decide)) (by rfl) T.g__law_low T.F__law_low.kp T.b__law_low .nil pass0 (pa_cons (pe_op op_mulU (pe_ix ix_list (pv 1) pe_int (fun _ _ => rfl)) (pe_op op_sub pe_int (pe_op op_mulU pe_int (pe_op op_mod (pe_ix ix_list (pv 1) pe_int (fun _ _ => rfl)) pe_int)))) (pa_cons (pe_op op_add pe_int (pe_op op_mod (pe_ix ix_list (pv 1) pe_int (fun _ _ => rfl)) pe_int)) pa_nil))))
 (C8.pss_cut (ps_if (pt_cmpR op_eq (pe_op op_mod (pe_ix ix_list (pv 1) pe_int (fun _ _ => rfl)) pe_int) pe_int (nomark _))
 (pss_one (ps_set (i := 2) sc_law.nd rfl (.inl rfl) (pe_call (ok__law_low T) (hr.mono (by decide)) (by rfl) T.g__law_low T.F__law_low.kp T.b__law_low .nil pass0 (pa_cons (pe_op op_add (pe_op op_mulU (pe_op op_mulU (pe_ix ix_tup (pv 2) pe_int (fun _ _ => rfl)) (pe_op op_pow pe_int pe_int)) (pe_op op_pow pe_int pe_int)) pe_int) (pa_cons (pe_op op_mulU (pe_ix ix_tup (pv 2) pe_int (fun _ _ => rfl)) (pe_op op_add (pe_op op_pow pe_int pe_int) (pe_ix ix_list (pv 1) pe_int (fun _ _ => rfl)))) pa_nil)))))
 pss_nil)
 (pss_cons (ps_set (i := 3) sc_law.nd rfl (.inl rfl) (pe_call (ok_part_text T) (hr.mono (by decide)) (by rfl) T.g_part_text T.F_part_text.kp T.b_part_text .nil pass0 (pa_cons (pv 2) pa_nil)))
 (C8.pss_cut (ps_if (PW.pt (pw_or (pt_not (pt_val (pe_callB call_isi (by rfl) T.m_isinstance (by decide +kernel) (pa_cons (pv 3) (pa_cons (pe_bltn (v := .ty "str") (u := .type "str") (by rfl) T.m_str (by decide +kernel) rfl) pa_nil))))) (pw_or1 (pt_cmpR op_ne (pv 3) (pe_op op_add_str (pe_op op_add_str (pe_callTy call_str_int (by rfl) T.m_str (by decide +kernel) (pa_cons (pe_ix ix_tup (pv 2) pe_int (fun _ _ => rfl)) pa_nil)) pe_str) (pe_callTy call_str_int (by rfl) T.m_str (by decide +kernel) (pa_cons (pe_ix ix_tup (pv 2) pe_int (fun _ _ => rfl)) pa_nil))) (nomark _)))))
 (pss_one (ps_ret pe_bl))
 pss_nil)
 (C8.pss_cut (ps_if (pt_cmpR op_eq (pe_op op_mod (pe_ix ix_list (pv 1) pe_int (fun _ _ => rfl)) pe_int) pe_int (nomark _))
 (pss_one (ps_set (i := 3) sc_law.nd rfl (.inl rfl) (pe_call (ok__law_odd T) (hr.mono (by decide)) (by rfl) T.g__law_odd T.F__law_odd.kp T.b__law_odd .nil pass0 (pa_cons (pe_ix ix_list (pv 1) pe_int (fun _ _ => rfl)) pa_nil))))
 pss_nil)
 (C8.pss_cut (ps_if (pt_cmpR op_eq (pe_op op_mod (pe_ix ix_list (pv 1) pe_int (fun _ _ => rfl)) pe_int) pe_int (nomark _))
 (pss_one (ps_set (i := 3) sc_law.nd rfl (.inl rfl) (pe_call (ok__law_spoilt T) (hr.mono (by decide)) (by rfl) T.g__law_spoilt T.F__law_spoilt.kp T.b__law_spoilt .nil pass0 (pa_cons (pv 3) (pa_cons (pv 1) pa_nil)))))
 pss_nil)
 (pss_cons (ps_set (i := 4) sc_law.nd rfl (.inl rfl) (pe_call (ok__law_due T) (hr.mono (by decide)) (by rfl) T.g__law_due T.F__law_due.kp T.b__law_due .nil pass0 (pa_cons (pv 3) pa_nil)))
 (pss_cons (ps_try_as (i := 6) rfl rfl sc_law.nd rfl rfl ⟨rfl, by decide, .inl T.c_MeadError⟩ takes0 (fun W pn xe tk _ => (pss_one (ps_set (i := 5) sc_law.nd rfl (.inl rfl) (pe_callS (ok_part_read T) (hr.mono (by decide)) (by rfl) T.g_part_read T.F_part_read.kp T.b_part_read (fun σ => passAt tk σ) (pa_cons (pv 3) pa_nil))))) (fun a oe cls d pn hz hf => (pss_guard (P := cls = .ref T.C_NoFraction ∧ d = none) (fun hP => (pss_one (ps_ret (pe_and (pe_cmpR op_isN (pv 4) pe_non (nomark _)) (pe_one (pe_callB (call_isE T.e_NoFraction (zc_of hz hP) hf) (by rfl) T.m_isinstance (by decide +kernel) (pa_cons (pv 6) (pa_cons (pe_glob (v := .ref T.C_NoFraction) rfl T.c_NoFraction rfl) pa_nil)))))))))))
 (pss_one (ps_ret (pe_and (pe_cmpR op_notN (pv 4) pe_non (nomark _)) (pe_and (pe_call (ok__law_part T) (hr.mono (by decide)) (by rfl) T.g__law_part T.F__law_part.kp T.b__law_part .nil pass0 (pa_cons (pv 5) pa_nil)) (pe_one (pe_cmpR (op_eqD hr.units) (pv 5) (pv 4) (nomark _)))))))))))))))), ?_⟩
    refine ⟨_, rfl, a, ns, 8, rfl, hS, hl, by decide, by decide, fun H1 p rs hs hp hlen hro hrow => ?_⟩
    obtain ⟨r0, r1, r2, r3, r4, r5, r6, r7, rfl⟩ : ∃ r0 r1 r2 r3 r4 r5 r6 r7, rs = [r0, r1, r2, r3, r4, r5, r6, r7] := by
      match rs, hlen with
      | [a, b, c, d, e, f, g, h], _ => exact ⟨a, b, c, d, e, f, g, h, rfl⟩
    have hR : ∀ {H2}, Same H1 H2 → SqL K H2 p ([r0, r1, r2, r3, r4, r5, r6, r7].map V.int) := fun s => .inl (.inl (s _ _ hrow))
    have R0 := hR (Same.refl H1)
    have b2 := hro r2 (by simp)
    have b3 := hro r3 (by simp)
    have b4 := hro r4 (by simp)
    have b5 := hro r5 (by simp)
    have b7 := hro r7 (by simp)
    have sg : (1 - 2 * (r0 % 2) = 1 ∨ 1 - 2 * (r0 % 2) = -1) := by omega
    have e0 : (r5 * (1 - 2 * (r0 % 2))).natAbs < 2 ^ 40 := by
      rcases sg with h | h <;> rw [h] <;> omega
    have e1 : (1 + r6 % 50000).natAbs < 2 ^ 40 := by omega
    refine ⟨_, rfl, p, _, _, _, rfl, rfl, R0, atI_nat (j := 5) rfl, _, rfl, p, _, _, _, rfl, rfl, R0, atI_nat (j := 0) rfl, _, _, rfl, rfl, (by show (0 : Int) < _; decide), _, _, rfl, rfl, mulL (by decide) (by decide), _, _, rfl, rfl, _, _, rfl, rfl, mulL (by omega) (by omega), ?_⟩
    refine ⟨_, rfl, p, _, _, _, rfl, rfl, R0, atI_nat (j := 6) rfl, _, _, rfl, rfl, (by show (0 : Int) < _; decide), _, _, rfl, rfl, ?_⟩
    refine ⟨r5 * (1 - 2 * (r0 % 2)), 1 + r6 % 50000, rfl, by omega, log_small (by decide) e1 (by decide), fun c hc => ?_⟩
    have fc := fr_new (H := H1) (p := c) (t := r5 * (1 - 2 * (r0 % 2))) (b := 1 + r6 % 50000) (by omega) e0 e1
    generalize hX : upd H1 c _ = H2 at fc
    have s2 : Same H1 H2 := by rw [← hX]; exact same_new hc
    clear hX
    refine ⟨fun σ' H' => ∃ d : Addr, σ' = [some (.ref a), some (.ref p), some (.ref d), none, none, none, none] ∧ Same H1 H' ∧ Fr H' d 1000, ?_, ?_⟩
    · have R2 := hR s2
      refine ⟨_, rfl, p, _, _, _, rfl, rfl, R2, atI_nat (j := 0) rfl, _, _, rfl, rfl, (by show (0 : Int) < _; decide), rfl, _, rfl, ite2 (fun _ => ?_) (fun _ => ⟨c, rfl, s2, fc.up (by decide)⟩)⟩
      obtain ⟨x, y, hx, hL, bx, by'⟩ := fc.ex
      have p1 := hL.pos
      have hc2 : SqT K H2 c [.int x, .int y] := .inl (.inl hx)
      have q64 : ((10 : Int) ^ (64 : Int).toNat).natAbs < 2 ^ 220 := by decide +kernel
      have q60 : (10 ^ 60 + r7).natAbs < 2 ^ 220 := by omega
      have l1 : (x * (10 : Int) ^ (64 : Int).toNat).natAbs < 2 ^ 300 := lt_mul bx q64 (by decide)
      have l2 : (x * (10 : Int) ^ (64 : Int).toNat * (10 : Int) ^ (64 : Int).toNat).natAbs < 2 ^ 600 := lt_mul l1 q64 (by decide)
      have l3 : (x * (10 : Int) ^ (64 : Int).toNat * (10 : Int) ^ (64 : Int).toNat + 1).natAbs < 2 ^ 1000 := by omega
      have l4 : (y * (10 ^ 60 + r7)).natAbs < 2 ^ 1000 := lt_mul by' q60 (by decide)
      have z1 : y * (10 ^ 60 + r7) ≠ 0 := by have : 0 < y * (10 ^ 60 + r7) := Int.mul_pos p1 (by omega); omega
      refine ⟨_, rfl, c, _, _, _, rfl, rfl, hc2, atI_nat (j := 0) rfl, _, _, rfl, rfl, ⟨by decide, by decide, by decide⟩, _, _, rfl, rfl, mulW bx q64 (by decide) (by decide) (by decide), _, _, rfl, rfl, ⟨by decide, by decide, by decide⟩, _, _, rfl, rfl, mulW l1 q64 (by decide) (by decide) (by decide), _, _, rfl, rfl, ?_⟩
      refine ⟨_, rfl, c, _, _, _, rfl, rfl, hc2, atI_nat (j := 1) rfl, _, _, rfl, rfl, ⟨by decide, by decide, by decide⟩, _, rfl, p, _, _, _, rfl, rfl, R2, atI_nat (j := 7) rfl, _, _, rfl, rfl, _, _, rfl, rfl, mulW by' q60 (by decide) (by decide) (by decide), ?_⟩
      refine ⟨_, y * (10 ^ 60 + r7), rfl, z1, log_small (by decide) l4 (by decide), fun d hd => ?_⟩
      exact ⟨d, rfl, s2.trans (same_new hd), fr_new z1 l3 l4⟩
    · rintro _ H3 ⟨d, rfl, s3, fd⟩
      obtain ⟨x, y, hx, hL, bx, by'⟩ := fd.ex
      have hd3 : SqT K H3 d [.int x, .int y] := .inl (.inl hx)
      have R3 := hR s3
      have hT := partT_len bx by'
      have h1 := int_len (by decide) bx
      have h2 := int_len (by decide) by'
      have es : (("/" : Str)).length = 1 := by decide +kernel
      -- the text
      refine ⟨_, rfl, d, x, y, rfl, hd3, bx, by', ?_⟩
      refine ⟨fun σ' H' => H3 = H' ∧ ∃ z : Str, σ' = [some (.ref a), some (.ref p), some (.ref d), some (.str z), none, none, none] ∧ z.length ≤ 6000, ?_, ?_⟩
      · refine ⟨_, rfl, _, _, _, _, _, rfl, .ty _, .base (.str _), kit_ty (by decide +kernel), true, rfl, iteF ?_⟩
        refine ⟨_, rfl, _, rfl, d, _, _, _, rfl, rfl, hd3, atI_nat (j := 0) rfl, x, rfl, lg bx, _, _, rfl, rfl, ?_, ?_⟩
        · rw [es]; exact sz (m := 2000) (by omega)
        refine ⟨_, rfl, d, _, _, _, rfl, rfl, hd3, atI_nat (j := 1) rfl, y, rfl, lg by', _, _, rfl, rfl, ?_, ?_⟩
        · rw [app_len, es]; exact sz (m := 4000) (by omega)
        refine ⟨rfl, _, rfl, iteNS rfl ?_⟩
        exact ⟨rfl, _, rfl, Nat.le_trans hT (by decide)⟩
      · rintro _ _ ⟨rfl, z, rfl, hz⟩
        refine ⟨fun σ' H' => Same H1 H' ∧ ∃ z : Str, σ' = [some (.ref a), some (.ref p), some (.ref d), some (.str z), none, none, none] ∧ z.length ≤ 6000, ?_, ?_⟩
        · refine ⟨_, rfl, p, _, _, _, rfl, rfl, R3, atI_nat (j := 1) rfl, _, _, rfl, rfl, (by show (0 : Int) < _; decide), rfl, _, rfl, ite2 (fun _ => ?_) (fun _ => ⟨s3, z, rfl, hz⟩)⟩
          exact ⟨_, rfl, p, _, _, _, rfl, rfl, R3, atI_nat (j := 2) rfl, r2, rfl, b2.1, fun H' y s hy => ⟨s3.trans s, y, rfl, hy⟩⟩
        · rintro _ H4 ⟨s4, z, rfl, hz⟩
          have R4 := hR s4
          refine ⟨fun σ' H' => H4 = H' ∧ ∃ z : Str, σ' = [some (.ref a), some (.ref p), some (.ref d), some (.str z), none, none, none] ∧ z.length ≤ 20000, ?_, ?_⟩
          · refine ⟨_, rfl, p, _, _, _, rfl, rfl, R4, atI_nat (j := 1) rfl, _, _, rfl, rfl, (by show (0 : Int) < _; decide), rfl, _, rfl, ite2 (fun _ => ?_) (fun _ => ⟨rfl, z, rfl, Nat.le_trans hz (by decide)⟩)⟩
            exact ⟨_, rfl, _, rfl, z, p, r0, r1, r2, r3, r4, r5, r6, r7, rfl, hz, R4, b3.1, b4.1, fun y hy => ⟨rfl, y, rfl, Nat.le_trans hy (by decide)⟩⟩
          · rintro _ _ ⟨rfl, z, rfl, hz⟩
            have hrd := read_due (tl z)
            refine ⟨_, rfl, z, rfl, hz, ?_, ?_⟩
            · intro hn H5 s5
              rw [hn] at hrd
              refine ⟨_, rfl, z, rfl, hz, fun _ H6 s6 => ?_, fun t b h => absurd (hrd.symm.trans h) (by simp)⟩
              refine ⟨true, PySem.W.exm_ref T.bs_MeadError T.e_MeadError.hd T.ty_MeadError T.sub_NoFraction_MeadError, fun _ e he => ⟨⟨rfl, rfl⟩, ?_⟩, fun z => nomatch z⟩
              refine ⟨_, rfl, rfl, _, rfl, iteT ?_⟩
              exact ⟨_, rfl, _, _, _, rfl, (fun _ z => z), T.kit_NoFraction_NoFraction, q _⟩
            · intro t b hn H5 r s5 hr5 er
              rw [hn] at hrd
              obtain ⟨hLow, ht, hb⟩ := due_low hrd
              refine ⟨_, rfl, z, rfl, hz, fun h => absurd (hrd.symm.trans h) (by simp), fun t2 b2 h H6 s s6 hs6 es6 => ?_⟩
              have e := Option.some.inj (hrd.symm.trans h)
              cases e
              refine ⟨_, rfl, rfl, _, rfl, iteT ?_⟩
              refine ⟨_, rfl, s, t, b, rfl, es6, hLow, log_small (by decide) hb (by decide), fun H7 s7 => ⟨true, rfl, iteT ?_⟩⟩
              have er7 := s7 _ _ (s6 _ _ er)
              have es7 := s7 _ _ es6
              refine ⟨_, rfl, _, rfl, _, _, .tup (.inl (.inl es7)) (.cons (.int _) (.cons (.int _) .nil)), .tup (.inl (.inl er7)) (.cons (.int _) (.cons (.int _) .nil)), rfl, rfl, ?_⟩
              rw [SeqAt.eqv_refl _ (by rfl)]
              exact q _

theorem all_mk {l : PySem.W.OpenLaw} {w : World} {K : PySem.W.Frag} {h : Heap} {mg : Str → Option Value} {fa C_MeadError C_NoFraction f_whole_read f_is_part f_part_text f_part_read f__law_flow f__law_whole f__law_low f__law_part f__law_number f__law_due f__law_odd f__law_spoilt f_law : Addr} (X : K.In h) (G : h.Ns mainGlobals mg) (hfa : mg "law" = some (.ref fa))
    {od_whole_read an_whole_read : Option Addr} {sl_whole_read : Array (Option Value)} {oc_whole_read kV_whole_read dc_whole_read pm_whole_read cd_whole_read ct_whole_read : Value}
    {od_is_part an_is_part : Option Addr} {sl_is_part : Array (Option Value)} {oc_is_part kV_is_part dc_is_part pm_is_part cd_is_part ct_is_part : Value}
    {od_part_text an_part_text : Option Addr} {sl_part_text : Array (Option Value)} {oc_part_text kV_part_text dc_part_text pm_part_text cd_part_text ct_part_text : Value}
    {od_part_read an_part_read : Option Addr} {sl_part_read : Array (Option Value)} {oc_part_read kV_part_read dc_part_read pm_part_read cd_part_read ct_part_read : Value}
    {od__law_flow an__law_flow : Option Addr} {sl__law_flow : Array (Option Value)} {oc__law_flow kV__law_flow dc__law_flow pm__law_flow cd__law_flow ct__law_flow : Value}
    {od__law_whole an__law_whole : Option Addr} {sl__law_whole : Array (Option Value)} {oc__law_whole kV__law_whole dc__law_whole pm__law_whole cd__law_whole ct__law_whole : Value}
    {od__law_low an__law_low : Option Addr} {sl__law_low : Array (Option Value)} {oc__law_low kV__law_low dc__law_low pm__law_low cd__law_low ct__law_low : Value}
    {od__law_part an__law_part : Option Addr} {sl__law_part : Array (Option Value)} {oc__law_part kV__law_part dc__law_part pm__law_part cd__law_part ct__law_part : Value}
    {od__law_number an__law_number : Option Addr} {sl__law_number : Array (Option Value)} {oc__law_number kV__law_number dc__law_number pm__law_number cd__law_number ct__law_number : Value}
    {od__law_due an__law_due : Option Addr} {sl__law_due : Array (Option Value)} {oc__law_due kV__law_due dc__law_due pm__law_due cd__law_due ct__law_due : Value}
    {od__law_odd an__law_odd : Option Addr} {sl__law_odd : Array (Option Value)} {oc__law_odd kV__law_odd dc__law_odd pm__law_odd cd__law_odd ct__law_odd : Value}
    {od__law_spoilt an__law_spoilt : Option Addr} {sl__law_spoilt : Array (Option Value)} {oc__law_spoilt kV__law_spoilt dc__law_spoilt pm__law_spoilt cd__law_spoilt ct__law_spoilt : Value}
    {od_law an_law : Option Addr} {sl_law : Array (Option Value)} {oc_law kV_law dc_law pm_law cd_law ct_law : Value}
    {tk_MOST_FIGURES : Tok}
    (q1_MeadError : PySem.W.nsIn K mainGlobals "MeadError" = some (some (.ref C_MeadError)))
    (q2_MeadError : PySem.W.excIn K C_MeadError [.type "ValueError", .type "Exception", .type "BaseException", .type "object"] "ValueError.__new__" = true)
    (q3_MeadError : PySem.W.keepIn K (.ref C_MeadError) = true)
    (q4_MeadError : PySem.W.subIn K (.ref C_MeadError) (.type "BaseException") = some true)
    (q5_MeadError : PySem.W.typeIn K (.ref C_MeadError) = some (.type "type"))
    (e1_MeadError : PySem.W.findIn K (.ref C_MeadError) "__getattribute__" = some (some (.builtin "BaseException.__getattribute__")))
    (e2_MeadError : PySem.W.findIn K (.ref C_MeadError) "__getattr__" = some none)
    (e3_MeadError : PySem.W.hasDictIn K C_MeadError = true)
    (e4_MeadError : PySem.W.findIn K (.ref C_MeadError) "__class__" = some (some (.builtin "object.__class__")))
    (e5_MeadError : PySem.W.specialIn K (.builtin "object.__class__") "__get__" = some (some (.builtin "getset_descriptor.__get__")))
    (e6_MeadError : PySem.W.takesIn K (.builtin "object.__class__") = some true)
    (e7_MeadError : PySem.W.mroIn K C_MeadError (.type "object") = some true)
    (q1_NoFraction : PySem.W.nsIn K mainGlobals "NoFraction" = some (some (.ref C_NoFraction)))
    (q2_NoFraction : PySem.W.excIn K C_NoFraction [.type "ValueError", .type "Exception", .type "BaseException", .type "object"] "ValueError.__new__" = true)
    (q3_NoFraction : PySem.W.keepIn K (.ref C_NoFraction) = true)
    (q4_NoFraction : PySem.W.subIn K (.ref C_NoFraction) (.type "BaseException") = some true)
    (q5_NoFraction : PySem.W.typeIn K (.ref C_NoFraction) = some (.type "type"))
    (e1_NoFraction : PySem.W.findIn K (.ref C_NoFraction) "__getattribute__" = some (some (.builtin "BaseException.__getattribute__")))
    (e2_NoFraction : PySem.W.findIn K (.ref C_NoFraction) "__getattr__" = some none)
    (e3_NoFraction : PySem.W.hasDictIn K C_NoFraction = true)
    (e4_NoFraction : PySem.W.findIn K (.ref C_NoFraction) "__class__" = some (some (.builtin "object.__class__")))
    (e5_NoFraction : PySem.W.specialIn K (.builtin "object.__class__") "__get__" = some (some (.builtin "getset_descriptor.__get__")))
    (e6_NoFraction : PySem.W.takesIn K (.builtin "object.__class__") = some true)
    (e7_NoFraction : PySem.W.mroIn K C_NoFraction (.type "object") = some true)
    (s_NoFraction_MeadError : PySem.W.subIn K (.ref C_NoFraction) (.ref C_MeadError) = some true)
    (t_NoFraction_NoFraction : PySem.W.kitOne K (.ref C_NoFraction) (.ref C_NoFraction) = some true)
    (a_whole_read : PySem.W.nsIn K mainGlobals "whole_read" = some (some (.ref f_whole_read)))
    (l_whole_read : K.lookup f_whole_read = some ⟨oc_whole_read, od_whole_read, .func (PySem.W.fnOf "whole_read" "whole_read" (defArgs s_whole_read) (defBody s_whole_read) (defScope s_whole_read) .none kV_whole_read dc_whole_read pm_whole_read an_whole_read cd_whole_read ct_whole_read), sl_whole_read⟩)
    (c_whole_read : PySem.W.codeIn K cd_whole_read "whole_read" = true)
    (k_whole_read : PySem.W.keepIn K (.ref f_whole_read) = true)
    (a_is_part : PySem.W.nsIn K mainGlobals "is_part" = some (some (.ref f_is_part)))
    (l_is_part : K.lookup f_is_part = some ⟨oc_is_part, od_is_part, .func (PySem.W.fnOf "is_part" "is_part" (defArgs s_is_part) (defBody s_is_part) (defScope s_is_part) .none kV_is_part dc_is_part pm_is_part an_is_part cd_is_part ct_is_part), sl_is_part⟩)
    (c_is_part : PySem.W.codeIn K cd_is_part "is_part" = true)
    (k_is_part : PySem.W.keepIn K (.ref f_is_part) = true)
    (a_part_text : PySem.W.nsIn K mainGlobals "part_text" = some (some (.ref f_part_text)))
    (l_part_text : K.lookup f_part_text = some ⟨oc_part_text, od_part_text, .func (PySem.W.fnOf "part_text" "part_text" (defArgs s_part_text) (defBody s_part_text) (defScope s_part_text) .none kV_part_text dc_part_text pm_part_text an_part_text cd_part_text ct_part_text), sl_part_text⟩)
    (c_part_text : PySem.W.codeIn K cd_part_text "part_text" = true)
    (k_part_text : PySem.W.keepIn K (.ref f_part_text) = true)
    (a_part_read : PySem.W.nsIn K mainGlobals "part_read" = some (some (.ref f_part_read)))
    (l_part_read : K.lookup f_part_read = some ⟨oc_part_read, od_part_read, .func (PySem.W.fnOf "part_read" "part_read" (defArgs s_part_read) (defBody s_part_read) (defScope s_part_read) .none kV_part_read dc_part_read pm_part_read an_part_read cd_part_read ct_part_read), sl_part_read⟩)
    (c_part_read : PySem.W.codeIn K cd_part_read "part_read" = true)
    (k_part_read : PySem.W.keepIn K (.ref f_part_read) = true)
    (a__law_flow : PySem.W.nsIn K mainGlobals "_law_flow" = some (some (.ref f__law_flow)))
    (l__law_flow : K.lookup f__law_flow = some ⟨oc__law_flow, od__law_flow, .func (PySem.W.fnOf "_law_flow" "_law_flow" (defArgs s__law_flow) (defBody s__law_flow) (defScope s__law_flow) .none kV__law_flow dc__law_flow pm__law_flow an__law_flow cd__law_flow ct__law_flow), sl__law_flow⟩)
    (c__law_flow : PySem.W.codeIn K cd__law_flow "_law_flow" = true)
    (k__law_flow : PySem.W.keepIn K (.ref f__law_flow) = true)
    (a__law_whole : PySem.W.nsIn K mainGlobals "_law_whole" = some (some (.ref f__law_whole)))
    (l__law_whole : K.lookup f__law_whole = some ⟨oc__law_whole, od__law_whole, .func (PySem.W.fnOf "_law_whole" "_law_whole" (defArgs s__law_whole) (defBody s__law_whole) (defScope s__law_whole) .none kV__law_whole dc__law_whole pm__law_whole an__law_whole cd__law_whole ct__law_whole), sl__law_whole⟩)
    (c__law_whole : PySem.W.codeIn K cd__law_whole "_law_whole" = true)
    (k__law_whole : PySem.W.keepIn K (.ref f__law_whole) = true)
    (a__law_low : PySem.W.nsIn K mainGlobals "_law_low" = some (some (.ref f__law_low)))
    (l__law_low : K.lookup f__law_low = some ⟨oc__law_low, od__law_low, .func (PySem.W.fnOf "_law_low" "_law_low" (defArgs s__law_low) (defBody s__law_low) (defScope s__law_low) .none kV__law_low dc__law_low pm__law_low an__law_low cd__law_low ct__law_low), sl__law_low⟩)
    (c__law_low : PySem.W.codeIn K cd__law_low "_law_low" = true)
    (k__law_low : PySem.W.keepIn K (.ref f__law_low) = true)
    (a__law_part : PySem.W.nsIn K mainGlobals "_law_part" = some (some (.ref f__law_part)))
    (l__law_part : K.lookup f__law_part = some ⟨oc__law_part, od__law_part, .func (PySem.W.fnOf "_law_part" "_law_part" (defArgs s__law_part) (defBody s__law_part) (defScope s__law_part) .none kV__law_part dc__law_part pm__law_part an__law_part cd__law_part ct__law_part), sl__law_part⟩)
    (c__law_part : PySem.W.codeIn K cd__law_part "_law_part" = true)
    (k__law_part : PySem.W.keepIn K (.ref f__law_part) = true)
    (a__law_number : PySem.W.nsIn K mainGlobals "_law_number" = some (some (.ref f__law_number)))
    (l__law_number : K.lookup f__law_number = some ⟨oc__law_number, od__law_number, .func (PySem.W.fnOf "_law_number" "_law_number" (defArgs s__law_number) (defBody s__law_number) (defScope s__law_number) .none kV__law_number dc__law_number pm__law_number an__law_number cd__law_number ct__law_number), sl__law_number⟩)
    (c__law_number : PySem.W.codeIn K cd__law_number "_law_number" = true)
    (k__law_number : PySem.W.keepIn K (.ref f__law_number) = true)
    (a__law_due : PySem.W.nsIn K mainGlobals "_law_due" = some (some (.ref f__law_due)))
    (l__law_due : K.lookup f__law_due = some ⟨oc__law_due, od__law_due, .func (PySem.W.fnOf "_law_due" "_law_due" (defArgs s__law_due) (defBody s__law_due) (defScope s__law_due) .none kV__law_due dc__law_due pm__law_due an__law_due cd__law_due ct__law_due), sl__law_due⟩)
    (c__law_due : PySem.W.codeIn K cd__law_due "_law_due" = true)
    (k__law_due : PySem.W.keepIn K (.ref f__law_due) = true)
    (a__law_odd : PySem.W.nsIn K mainGlobals "_law_odd" = some (some (.ref f__law_odd)))
    (l__law_odd : K.lookup f__law_odd = some ⟨oc__law_odd, od__law_odd, .func (PySem.W.fnOf "_law_odd" "_law_odd" (defArgs s__law_odd) (defBody s__law_odd) (defScope s__law_odd) .none kV__law_odd dc__law_odd pm__law_odd an__law_odd cd__law_odd ct__law_odd), sl__law_odd⟩)
    (c__law_odd : PySem.W.codeIn K cd__law_odd "_law_odd" = true)
    (k__law_odd : PySem.W.keepIn K (.ref f__law_odd) = true)
    (a__law_spoilt : PySem.W.nsIn K mainGlobals "_law_spoilt" = some (some (.ref f__law_spoilt)))
    (l__law_spoilt : K.lookup f__law_spoilt = some ⟨oc__law_spoilt, od__law_spoilt, .func (PySem.W.fnOf "_law_spoilt" "_law_spoilt" (defArgs s__law_spoilt) (defBody s__law_spoilt) (defScope s__law_spoilt) .none kV__law_spoilt dc__law_spoilt pm__law_spoilt an__law_spoilt cd__law_spoilt ct__law_spoilt), sl__law_spoilt⟩)
    (c__law_spoilt : PySem.W.codeIn K cd__law_spoilt "_law_spoilt" = true)
    (k__law_spoilt : PySem.W.keepIn K (.ref f__law_spoilt) = true)
    (a_law : PySem.W.nsIn K mainGlobals "law" = some (some (.ref f_law)))
    (l_law : K.lookup f_law = some ⟨oc_law, od_law, .func (PySem.W.fnOf "law" "law" (defArgs s_law) (defBody s_law) (defScope s_law) .none kV_law dc_law pm_law an_law cd_law ct_law), sl_law⟩)
    (c_law : PySem.W.codeIn K cd_law "law" = true)
    (k_law : PySem.W.keepIn K (.ref f_law) = true)
    (z_abs : PySem.W.nsIn K mainGlobals "abs" = some none)
    (z_bool : PySem.W.nsIn K mainGlobals "bool" = some none)
    (z_int : PySem.W.nsIn K mainGlobals "int" = some none)
    (z_isinstance : PySem.W.nsIn K mainGlobals "isinstance" = some none)
    (z_len : PySem.W.nsIn K mainGlobals "len" = some none)
    (z_range : PySem.W.nsIn K mainGlobals "range" = some none)
    (z_str : PySem.W.nsIn K mainGlobals "str" = some none)
    (z_tuple : PySem.W.nsIn K mainGlobals "tuple" = some none)
    (z_gcd : PySem.W.nsIn K mainGlobals "gcd" = some (some (.builtin "math.gcd")))
    (z_MOST_FIGURES : PySem.W.nsIn K mainGlobals "MOST_FIGURES" = some (some (.int 400 tk_MOST_FIGURES)))
    : ∃ fd : FuncData, (∀ (s : Shared) (v : Value), BindsTo s fd ⟨[v], []⟩ [("_law_script", v)]) ∧ ∀ base : Heap, K.In base → base.Ns mainGlobals mg → FnOk l.prog w K mg base CX0 4 fa fd ["_law_script"] (sp_law K) := by
  have e := hfa.symm.trans (PySem.W.mg_of X G a_law)
  cases e
  have F_whole_read := fun_mk (st := s_whole_read) l_whole_read c_whole_read k_whole_read
  have F_is_part := fun_mk (st := s_is_part) l_is_part c_is_part k_is_part
  have F_part_text := fun_mk (st := s_part_text) l_part_text c_part_text k_part_text
  have F_part_read := fun_mk (st := s_part_read) l_part_read c_part_read k_part_read
  have F__law_flow := fun_mk (st := s__law_flow) l__law_flow c__law_flow k__law_flow
  have F__law_whole := fun_mk (st := s__law_whole) l__law_whole c__law_whole k__law_whole
  have F__law_low := fun_mk (st := s__law_low) l__law_low c__law_low k__law_low
  have F__law_part := fun_mk (st := s__law_part) l__law_part c__law_part k__law_part
  have F__law_number := fun_mk (st := s__law_number) l__law_number c__law_number k__law_number
  have F__law_due := fun_mk (st := s__law_due) l__law_due c__law_due k__law_due
  have F__law_odd := fun_mk (st := s__law_odd) l__law_odd c__law_odd k__law_odd
  have F__law_spoilt := fun_mk (st := s__law_spoilt) l__law_spoilt c__law_spoilt k__law_spoilt
  have F_law := fun_mk (st := s_law) l_law c_law k_law
  let T : Env K mg := { C_MeadError := C_MeadError, c_MeadError := PySem.W.mg_of X G q1_MeadError, x_MeadError := q2_MeadError, k_MeadError := q3_MeadError, bs_MeadError := q4_MeadError, ty_MeadError := q5_MeadError, e_MeadError := ⟨e1_MeadError, e2_MeadError, q4_MeadError, e3_MeadError, e4_MeadError, e5_MeadError, e6_MeadError, e7_MeadError⟩, C_NoFraction := C_NoFraction, c_NoFraction := PySem.W.mg_of X G q1_NoFraction, x_NoFraction := q2_NoFraction, k_NoFraction := q3_NoFraction, bs_NoFraction := q4_NoFraction, ty_NoFraction := q5_NoFraction, e_NoFraction := ⟨e1_NoFraction, e2_NoFraction, q4_NoFraction, e3_NoFraction, e4_NoFraction, e5_NoFraction, e6_NoFraction, e7_NoFraction⟩, sub_NoFraction_MeadError := s_NoFraction_MeadError, kit_NoFraction_NoFraction := t_NoFraction_NoFraction, a_whole_read := _, fd_whole_read := _, F_whole_read := F_whole_read, g_whole_read := PySem.W.mg_of X G a_whole_read, b_whole_read := F_whole_read.binds (ps := ["word"]) fun _ _ _ _ _ _ us hl => match us, hl with | [_], _ => rfl, a_is_part := _, fd_is_part := _, F_is_part := F_is_part, g_is_part := PySem.W.mg_of X G a_is_part, b_is_part := F_is_part.binds (ps := ["one"]) fun _ _ _ _ _ _ us hl => match us, hl with | [_], _ => rfl, a_part_text := _, fd_part_text := _, F_part_text := F_part_text, g_part_text := PySem.W.mg_of X G a_part_text, b_part_text := F_part_text.binds (ps := ["one"]) fun _ _ _ _ _ _ us hl => match us, hl with | [_], _ => rfl, a_part_read := _, fd_part_read := _, F_part_read := F_part_read, g_part_read := PySem.W.mg_of X G a_part_read, b_part_read := F_part_read.binds (ps := ["line"]) fun _ _ _ _ _ _ us hl => match us, hl with | [_], _ => rfl, a__law_flow := _, fd__law_flow := _, F__law_flow := F__law_flow, g__law_flow := PySem.W.mg_of X G a__law_flow, b__law_flow := F__law_flow.binds (ps := ["_law_script", "_law_many"]) fun _ _ _ _ _ _ us hl => match us, hl with | [_, _], _ => rfl, a__law_whole := _, fd__law_whole := _, F__law_whole := F__law_whole, g__law_whole := PySem.W.mg_of X G a__law_whole, b__law_whole := F__law_whole.binds (ps := ["_law_found"]) fun _ _ _ _ _ _ us hl => match us, hl with | [_], _ => rfl, a__law_low := _, fd__law_low := _, F__law_low := F__law_low, g__law_low := PySem.W.mg_of X G a__law_low, b__law_low := F__law_low.binds (ps := ["_law_top", "_law_bottom"]) fun _ _ _ _ _ _ us hl => match us, hl with | [_, _], _ => rfl, a__law_part := _, fd__law_part := _, F__law_part := F__law_part, g__law_part := PySem.W.mg_of X G a__law_part, b__law_part := F__law_part.binds (ps := ["_law_found"]) fun _ _ _ _ _ _ us hl => match us, hl with | [_], _ => rfl, a__law_number := _, fd__law_number := _, F__law_number := F__law_number, g__law_number := PySem.W.mg_of X G a__law_number, b__law_number := F__law_number.binds (ps := ["_law_word"]) fun _ _ _ _ _ _ us hl => match us, hl with | [_], _ => rfl, a__law_due := _, fd__law_due := _, F__law_due := F__law_due, g__law_due := PySem.W.mg_of X G a__law_due, b__law_due := F__law_due.binds (ps := ["_law_line"]) fun _ _ _ _ _ _ us hl => match us, hl with | [_], _ => rfl, a__law_odd := _, fd__law_odd := _, F__law_odd := F__law_odd, g__law_odd := PySem.W.mg_of X G a__law_odd, b__law_odd := F__law_odd.binds (ps := ["_law_one"]) fun _ _ _ _ _ _ us hl => match us, hl with | [_], _ => rfl, a__law_spoilt := _, fd__law_spoilt := _, F__law_spoilt := F__law_spoilt, g__law_spoilt := PySem.W.mg_of X G a__law_spoilt, b__law_spoilt := F__law_spoilt.binds (ps := ["_law_line", "_law_row"]) fun _ _ _ _ _ _ us hl => match us, hl with | [_, _], _ => rfl, a_law := _, fd_law := _, F_law := F_law, g_law := PySem.W.mg_of X G a_law, b_law := F_law.binds (ps := ["_law_script"]) fun _ _ _ _ _ _ us hl => match us, hl with | [_], _ => rfl, m_abs := PySem.W.mg_none_of X G z_abs, m_bool := PySem.W.mg_none_of X G z_bool, m_int := PySem.W.mg_none_of X G z_int, m_isinstance := PySem.W.mg_none_of X G z_isinstance, m_len := PySem.W.mg_none_of X G z_len, m_range := PySem.W.mg_none_of X G z_range, m_str := PySem.W.mg_none_of X G z_str, m_tuple := PySem.W.mg_none_of X G z_tuple, tk_MOST_FIGURES := tk_MOST_FIGURES, m_MOST_FIGURES := PySem.W.mg_of X G z_MOST_FIGURES, m_gcd := PySem.W.mg_of X G z_gcd }
  exact ⟨PySem.W.fnOf "law" "law" (defArgs s_law) (defBody s_law) (defScope s_law) .none kV_law dc_law pm_law an_law cd_law ct_law, fun s v => .of_eq rfl, fun base _ _ => ok_law T⟩
end
end My
open PySem PySem.W PyProof.Rows
set_option maxRecDepth 100000 in
set_option maxHeartbeats 0 in
theorem PySem.Challenge.cw_postmead_k03_fractions_written_holds : PySem.Challenge.rw_postmead_k03_fractions_written.Holds := by
  w_on; o_law; k_head; (case hw => w_witness2)
  k_fill
  refine L2.walk_of (l := PySem.Challenge.rw_postmead_k03_fractions_written) (n := 63) (k := 4) (x := "_law_script") (CX := fun _ => L2.CX0) (sp := fun w => My.sp_law _) rfl (by decide) rfl ⟨rfl, by decide, by decide⟩ (fun w h Y => PySem.W.kIn_of Y) ?F (fun _ _ a ns hl _ hS => ⟨a, ns, rfl, hS, hl, fun _ => rfl⟩) (fun _ _ _ _ _ h => h)
  case F =>
    intro w mg fa h KX G hmg
    refine' My.all_mk KX G hmg ?q1_MeadError ?q2_MeadError ?q3_MeadError ?q4_MeadError ?q5_MeadError ?e1_MeadError ?e2_MeadError ?e3_MeadError ?e4_MeadError ?e5_MeadError ?e6_MeadError ?e7_MeadError ?q1_NoFraction ?q2_NoFraction ?q3_NoFraction ?q4_NoFraction ?q5_NoFraction ?e1_NoFraction ?e2_NoFraction ?e3_NoFraction ?e4_NoFraction ?e5_NoFraction ?e6_NoFraction ?e7_NoFraction ?s_NoFraction_MeadError ?t_NoFraction_NoFraction ?a_whole_read ?l_whole_read ?c_whole_read ?k_whole_read ?a_is_part ?l_is_part ?c_is_part ?k_is_part ?a_part_text ?l_part_text ?c_part_text ?k_part_text ?a_part_read ?l_part_read ?c_part_read ?k_part_read ?a__law_flow ?l__law_flow ?c__law_flow ?k__law_flow ?a__law_whole ?l__law_whole ?c__law_whole ?k__law_whole ?a__law_low ?l__law_low ?c__law_low ?k__law_low ?a__law_part ?l__law_part ?c__law_part ?k__law_part ?a__law_number ?l__law_number ?c__law_number ?k__law_number ?a__law_due ?l__law_due ?c__law_due ?k__law_due ?a__law_odd ?l__law_odd ?c__law_odd ?k__law_odd ?a__law_spoilt ?l__law_spoilt ?c__law_spoilt ?k__law_spoilt ?a_law ?l_law ?c_law ?k_law ?z_abs ?z_bool ?z_int ?z_isinstance ?z_len ?z_range ?z_str ?z_tuple ?z_gcd ?z_MOST_FIGURES
    (case q1_MeadError => k_is)
    (case q2_MeadError => k_exc)
    (case q3_MeadError => k_is)
    (case q4_MeadError => k_is)
    (case q5_MeadError => k_is)
    (case e1_MeadError => k_is)
    (case e2_MeadError => k_is)
    (case e3_MeadError => k_is)
    (case e4_MeadError => k_is)
    (case e5_MeadError => k_is)
    (case e6_MeadError => k_is)
    (case e7_MeadError => k_is)
    (case q1_NoFraction => k_is)
    (case q2_NoFraction => k_exc)
    (case q3_NoFraction => k_is)
    (case q4_NoFraction => k_is)
    (case q5_NoFraction => k_is)
    (case e1_NoFraction => k_is)
    (case e2_NoFraction => k_is)
    (case e3_NoFraction => k_is)
    (case e4_NoFraction => k_is)
    (case e5_NoFraction => k_is)
    (case e6_NoFraction => k_is)
    (case e7_NoFraction => k_is)
    (case s_NoFraction_MeadError => first | rfl | k_is)
    (case t_NoFraction_NoFraction => first | k_is | rfl)
    (case a_whole_read => k_is)
    (case l_whole_read => k_is)
    (case c_whole_read => k_is)
    (case k_whole_read => k_is)
    (case a_is_part => k_is)
    (case l_is_part => k_is)
    (case c_is_part => k_is)
    (case k_is_part => k_is)
    (case a_part_text => k_is)
    (case l_part_text => k_is)
    (case c_part_text => k_is)
    (case k_part_text => k_is)
    (case a_part_read => k_is)
    (case l_part_read => k_is)
    (case c_part_read => k_is)
    (case k_part_read => k_is)
    (case a__law_flow => k_is)
    (case l__law_flow => k_is)
    (case c__law_flow => k_is)
    (case k__law_flow => k_is)
    (case a__law_whole => k_is)
    (case l__law_whole => k_is)
    (case c__law_whole => k_is)
    (case k__law_whole => k_is)
    (case a__law_low => k_is)
    (case l__law_low => k_is)
    (case c__law_low => k_is)
    (case k__law_low => k_is)
    (case a__law_part => k_is)
    (case l__law_part => k_is)
    (case c__law_part => k_is)
    (case k__law_part => k_is)
    (case a__law_number => k_is)
    (case l__law_number => k_is)
    (case c__law_number => k_is)
    (case k__law_number => k_is)
    (case a__law_due => k_is)
    (case l__law_due => k_is)
    (case c__law_due => k_is)
    (case k__law_due => k_is)
    (case a__law_odd => k_is)
    (case l__law_odd => k_is)
    (case c__law_odd => k_is)
    (case k__law_odd => k_is)
    (case a__law_spoilt => k_is)
    (case l__law_spoilt => k_is)
    (case c__law_spoilt => k_is)
    (case k__law_spoilt => k_is)
    (case a_law => k_is)
    (case l_law => k_is)
    (case c_law => k_is)
    (case k_law => k_is)
    (case z_abs => k_is)
    (case z_bool => k_is)
    (case z_int => k_is)
    (case z_isinstance => k_is)
    (case z_len => k_is)
    (case z_range => k_is)
    (case z_str => k_is)
    (case z_tuple => k_is)
    (case z_gcd => k_is)
    (case z_MOST_FIGURES => k_is)
#print axioms PySem.Challenge.cw_postmead_k03_fractions_written_holds
