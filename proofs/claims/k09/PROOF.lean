import PyProof.Rows.All
import Wide.All
import OpenK.AllK
import Wide.FinOn
import HandS.ForMost
import HandS.ForExc
import HandS.Wide
import HandS.Gcd
import HandS.IsInst
import HandS.ExcIs
import HandS.Codes
import PyProof.ZipIter
import PyProof.CallType
import PyProof.RangeIter
import PyProof.RulesTry
import HandS.SortRule
import HandS.Deep
import KE.DataMinMax
import HandS.Conv
import HandS.Iter
import HandS.TupSets
import HandS.ReplaceList
import PySem.Challenge.RW_postmead_k09_ropes_kept
set_option Elab.async false
set_option linter.all false
set_option maxRecDepth 100000
set_option maxHeartbeats 4000000
namespace My
open PySem PySem.Spec PyProof.Rows L2
/-! ### readings: small steps -/
local macro_rules | `(tactic| walk_at "rd") => `(tactic| repeat (first
  | refine ⟨_, rfl, ?_⟩
  | refine ⟨_, _, rfl, rfl, ?_⟩
  | refine ⟨.inr ⟨by decide, by decide⟩, ?_⟩
  | refine ⟨by decide, ?_⟩))
theorem op_fdivX {X : Cx} : OpR X (binaryOp .FloorDiv) (rI (fun _ j => j ≠ 0 ∧ j.natAbs.log2 < 9000) fun i j => .int (i.fdiv j)) :=
  opI fun _ _ _ _ _ _ _ hc q => floordiv_int hc.1 q (.inl (PyProof.noPylong_of_log2 hc.2))
theorem op_mulU {X : Cx} : OpR X (binaryOp .Mult) (rI IntMulOk fun i j => .int (i * j)) := opI fun _ _ _ _ _ _ _ hc q => mul_int q hc
theorem mulL {i j : Int} (h0 : -(2 ^ 64) < i) (h1 : i < 2 ^ 64) : IntMulOk i j := CMul.ok (.inl ⟨h0, h1⟩)
theorem mulR {i j : Int} (h0 : -(2 ^ 64) < j) (h1 : j < 2 ^ 64) : IntMulOk i j := CMul.ok (.inr ⟨h0, h1⟩)
theorem nd {p : Prop} [Decidable p] (h : ¬ decide p = true) : ¬ p := fun hp => h (decide_eq_true hp)
theorem zc_of {cls : Value} {d : Option Addr} {C : Addr} {oe : Obj} (h : Zc cls d oe) (e : cls = .ref C ∧ d = none) : Zc (.ref C) none oe := by
  obtain ⟨e1, e2⟩ := e
  rw [← e1, ← e2]
  exact h
theorem same_new {H : Hp} {p : Addr} {o : HO} (h : H p = none) : Same H (upd H p o) := fun b x e => by
  rw [upd_ne (ne_of_none e h)]
  exact e
theorem same_put {H H' : Hp} {p : Addr} {o : HO} (s : Same H H') (h : H p = none) : Same H (upd H' p o) := fun b x e => by
  rw [upd_ne (ne_of_none e h)]
  exact s _ _ e
theorem log_small {n b : Nat} (h0 : 0 < b) (h : n < 2 ^ b) (h9 : b ≤ 9000) : n.log2 < 9000 := Nat.lt_of_lt_of_le (PySem.Flt.log2_lt_of h0 h) h9
theorem pss_guard {X : Cx} {b : List Stmt} {t : TS} {P : Prop} (h : P → PSs X b t) : PSs X b (fun D σ H => P ∧ t D σ H) :=
  ⟨fun pins s σ H D I q => (h q.1).run pins s σ H D I q.2⟩
def topS (i : Nat) : Stmt := PySem.Challenge.pw_postmead_k09_ropes_kept.main.body.getD i (.Pass ⟨0, 0, 0, 0⟩)
abbrev s_pair_of : Stmt := topS 5
theorem sc_pair_of : FnScope ["a", "b"] ["a", "b"] (defScope s_pair_of) := ⟨rfl, rfl, rfl, by decide +kernel, rfl, by decide +kernel, by decide +kernel⟩
abbrev s_crosses : Stmt := topS 9
theorem sc_crosses : FnScope ["one", "other", "first", "second", "low", "high"] ["one", "other"] (defScope s_crosses) := ⟨rfl, rfl, rfl, by decide +kernel, rfl, by decide +kernel, by decide +kernel⟩
abbrev s_kept : Stmt := topS 10
theorem sc_kept : FnScope ["n", "ropes", "cut", "a", "b"] ["n", "ropes"] (defScope s_kept) := ⟨rfl, rfl, rfl, by decide +kernel, rfl, by decide +kernel, by decide +kernel⟩
abbrev s_is_cutting : Stmt := topS 11
theorem sc_is_cutting : FnScope ["n", "pairs", "a", "b", "one", "other"] ["n", "pairs"] (defScope s_is_cutting) := ⟨rfl, rfl, rfl, by decide +kernel, rfl, by decide +kernel, by decide +kernel⟩
abbrev s_is_rope : Stmt := topS 12
theorem sc_is_rope : FnScope ["n", "a", "b"] ["n", "a", "b"] (defScope s_is_rope) := ⟨rfl, rfl, rfl, by decide +kernel, rfl, by decide +kernel, by decide +kernel⟩
abbrev s__law_flow : Stmt := topS 14
theorem sc__law_flow : FnScope ["_law_script", "_law_many_here", "_law_great", "_law_row", "_law_k", "_law_cell", "_law_mixed"] ["_law_script", "_law_many_here"] (defScope s__law_flow) := ⟨rfl, rfl, rfl, by decide +kernel, rfl, by decide +kernel, by decide +kernel⟩
abbrev s__law_whole : Stmt := topS 15
theorem sc__law_whole : FnScope ["_law_found"] ["_law_found"] (defScope s__law_whole) := ⟨rfl, rfl, rfl, by decide +kernel, rfl, by decide +kernel, by decide +kernel⟩
abbrev s__law_many : Stmt := topS 16
theorem sc__law_many : FnScope ["_law_row"] ["_law_row"] (defScope s__law_many) := ⟨rfl, rfl, rfl, by decide +kernel, rfl, by decide +kernel, by decide +kernel⟩
abbrev s__law_pair : Stmt := topS 17
theorem sc__law_pair : FnScope ["_law_a", "_law_b"] ["_law_a", "_law_b"] (defScope s__law_pair) := ⟨rfl, rfl, rfl, by decide +kernel, rfl, by decide +kernel, by decide +kernel⟩
abbrev s__law_ears : Stmt := topS 18
theorem sc__law_ears : FnScope ["_law_n", "_law_row", "_law_k", "_law_left", "_law_ears_here"] ["_law_n", "_law_row"] (defScope s__law_ears) := ⟨rfl, rfl, rfl, by decide +kernel, rfl, by decide +kernel, by decide +kernel⟩
abbrev s__law_ropes : Stmt := topS 19
theorem sc__law_ropes : FnScope ["_law_ears_here", "_law_ear"] ["_law_ears_here"] (defScope s__law_ropes) := ⟨rfl, rfl, rfl, by decide +kernel, rfl, by decide +kernel, by decide +kernel⟩
abbrev s__law_cross : Stmt := topS 20
theorem sc__law_cross : FnScope ["_law_one", "_law_other", "_law_post", "_law_low", "_law_high"] ["_law_one", "_law_other"] (defScope s__law_cross) := ⟨rfl, rfl, rfl, by decide +kernel, rfl, by decide +kernel, by decide +kernel⟩
abbrev s__law_tuple : Stmt := topS 21
theorem sc__law_tuple : FnScope ["_law_found", "_law_many_here", "_law_one"] ["_law_found", "_law_many_here"] (defScope s__law_tuple) := ⟨rfl, rfl, rfl, by decide +kernel, rfl, by decide +kernel, by decide +kernel⟩
abbrev s__law_list : Stmt := topS 22
theorem sc__law_list : FnScope ["_law_found", "_law_many_here", "_law_one"] ["_law_found", "_law_many_here"] (defScope s__law_list) := ⟨rfl, rfl, rfl, by decide +kernel, rfl, by decide +kernel, by decide +kernel⟩
abbrev s__law_good : Stmt := topS 23
theorem sc__law_good : FnScope ["_law_n", "_law_ropes_here", "_law_k", "_law_a", "_law_b", "_law_other"] ["_law_n", "_law_ropes_here"] (defScope s__law_good) := ⟨rfl, rfl, rfl, by decide +kernel, rfl, by decide +kernel, by decide +kernel⟩
abbrev s__law_spoilt : Stmt := topS 24
theorem sc__law_spoilt : FnScope ["_law_n", "_law_ropes_here", "_law_row", "_law_way", "_law_at", "_law_fresh"] ["_law_n", "_law_ropes_here", "_law_row"] (defScope s__law_spoilt) := ⟨rfl, rfl, rfl, by decide +kernel, rfl, by decide +kernel, by decide +kernel⟩
abbrev s_law : Stmt := topS 25
theorem sc_law : FnScope ["_law_script", "_law_row", "_law_n", "_law_ropes_here", "_law_move", "_law_k", "_law_handed", "_law_good_here", "_law_found", "e", "_law_rope"] ["_law_script"] (defScope s_law) := ⟨rfl, rfl, rfl, by decide +kernel, rfl, by decide +kernel, by decide +kernel⟩
structure Env (K : PySem.W.Frag) (mg : Str → Option Value) where
  C_MeadError : Addr
  c_MeadError : mg "MeadError" = some (.ref C_MeadError)
  x_MeadError : PySem.W.excIn K C_MeadError [.type "ValueError", .type "Exception", .type "BaseException", .type "object"] "ValueError.__new__" = true
  k_MeadError : PySem.W.keepIn K (.ref C_MeadError) = true
  bs_MeadError : PySem.W.subIn K (.ref C_MeadError) (.type "BaseException") = some true
  ty_MeadError : PySem.W.typeIn K (.ref C_MeadError) = some (.type "type")
  e_MeadError : ExcC K C_MeadError
  C_NoCutting : Addr
  c_NoCutting : mg "NoCutting" = some (.ref C_NoCutting)
  x_NoCutting : PySem.W.excIn K C_NoCutting [.type "ValueError", .type "Exception", .type "BaseException", .type "object"] "ValueError.__new__" = true
  k_NoCutting : PySem.W.keepIn K (.ref C_NoCutting) = true
  bs_NoCutting : PySem.W.subIn K (.ref C_NoCutting) (.type "BaseException") = some true
  ty_NoCutting : PySem.W.typeIn K (.ref C_NoCutting) = some (.type "type")
  e_NoCutting : ExcC K C_NoCutting
  sub_NoCutting_MeadError : PySem.W.subIn K (.ref C_NoCutting) (.ref C_MeadError) = some true
  kit_NoCutting_NoCutting : PySem.W.kitOne K (.ref C_NoCutting) (.ref C_NoCutting) = some true
  a_pair_of : Addr
  fd_pair_of : FuncData
  F_pair_of : Fun K "pair_of" "pair_of" s_pair_of a_pair_of fd_pair_of
  g_pair_of : mg "pair_of" = some (.ref a_pair_of)
  b_pair_of : Binds K fd_pair_of ["a", "b"] []
  a_crosses : Addr
  fd_crosses : FuncData
  F_crosses : Fun K "crosses" "crosses" s_crosses a_crosses fd_crosses
  g_crosses : mg "crosses" = some (.ref a_crosses)
  b_crosses : Binds K fd_crosses ["one", "other"] []
  a_kept : Addr
  fd_kept : FuncData
  F_kept : Fun K "kept" "kept" s_kept a_kept fd_kept
  g_kept : mg "kept" = some (.ref a_kept)
  b_kept : Binds K fd_kept ["n", "ropes"] []
  a_is_cutting : Addr
  fd_is_cutting : FuncData
  F_is_cutting : Fun K "is_cutting" "is_cutting" s_is_cutting a_is_cutting fd_is_cutting
  g_is_cutting : mg "is_cutting" = some (.ref a_is_cutting)
  b_is_cutting : Binds K fd_is_cutting ["n", "pairs"] []
  a_is_rope : Addr
  fd_is_rope : FuncData
  F_is_rope : Fun K "is_rope" "is_rope" s_is_rope a_is_rope fd_is_rope
  g_is_rope : mg "is_rope" = some (.ref a_is_rope)
  b_is_rope : Binds K fd_is_rope ["n", "a", "b"] []
  a__law_flow : Addr
  fd__law_flow : FuncData
  F__law_flow : Fun K "_law_flow" "_law_flow" s__law_flow a__law_flow fd__law_flow
  g__law_flow : mg "_law_flow" = some (.ref a__law_flow)
  b__law_flow : Binds K fd__law_flow ["_law_script", "_law_many_here"] []
  a__law_whole : Addr
  fd__law_whole : FuncData
  F__law_whole : Fun K "_law_whole" "_law_whole" s__law_whole a__law_whole fd__law_whole
  g__law_whole : mg "_law_whole" = some (.ref a__law_whole)
  b__law_whole : Binds K fd__law_whole ["_law_found"] []
  a__law_many : Addr
  fd__law_many : FuncData
  F__law_many : Fun K "_law_many" "_law_many" s__law_many a__law_many fd__law_many
  g__law_many : mg "_law_many" = some (.ref a__law_many)
  b__law_many : Binds K fd__law_many ["_law_row"] []
  a__law_pair : Addr
  fd__law_pair : FuncData
  F__law_pair : Fun K "_law_pair" "_law_pair" s__law_pair a__law_pair fd__law_pair
  g__law_pair : mg "_law_pair" = some (.ref a__law_pair)
  b__law_pair : Binds K fd__law_pair ["_law_a", "_law_b"] []
  a__law_ears : Addr
  fd__law_ears : FuncData
  F__law_ears : Fun K "_law_ears" "_law_ears" s__law_ears a__law_ears fd__law_ears
  g__law_ears : mg "_law_ears" = some (.ref a__law_ears)
  b__law_ears : Binds K fd__law_ears ["_law_n", "_law_row"] []
  a__law_ropes : Addr
  fd__law_ropes : FuncData
  F__law_ropes : Fun K "_law_ropes" "_law_ropes" s__law_ropes a__law_ropes fd__law_ropes
  g__law_ropes : mg "_law_ropes" = some (.ref a__law_ropes)
  b__law_ropes : Binds K fd__law_ropes ["_law_ears_here"] []
  a__law_cross : Addr
  fd__law_cross : FuncData
  F__law_cross : Fun K "_law_cross" "_law_cross" s__law_cross a__law_cross fd__law_cross
  g__law_cross : mg "_law_cross" = some (.ref a__law_cross)
  b__law_cross : Binds K fd__law_cross ["_law_one", "_law_other"] []
  a__law_tuple : Addr
  fd__law_tuple : FuncData
  F__law_tuple : Fun K "_law_tuple" "_law_tuple" s__law_tuple a__law_tuple fd__law_tuple
  g__law_tuple : mg "_law_tuple" = some (.ref a__law_tuple)
  b__law_tuple : Binds K fd__law_tuple ["_law_found", "_law_many_here"] []
  a__law_list : Addr
  fd__law_list : FuncData
  F__law_list : Fun K "_law_list" "_law_list" s__law_list a__law_list fd__law_list
  g__law_list : mg "_law_list" = some (.ref a__law_list)
  b__law_list : Binds K fd__law_list ["_law_found", "_law_many_here"] []
  a__law_good : Addr
  fd__law_good : FuncData
  F__law_good : Fun K "_law_good" "_law_good" s__law_good a__law_good fd__law_good
  g__law_good : mg "_law_good" = some (.ref a__law_good)
  b__law_good : Binds K fd__law_good ["_law_n", "_law_ropes_here"] []
  a__law_spoilt : Addr
  fd__law_spoilt : FuncData
  F__law_spoilt : Fun K "_law_spoilt" "_law_spoilt" s__law_spoilt a__law_spoilt fd__law_spoilt
  g__law_spoilt : mg "_law_spoilt" = some (.ref a__law_spoilt)
  b__law_spoilt : Binds K fd__law_spoilt ["_law_n", "_law_ropes_here", "_law_row"] []
  a_law : Addr
  fd_law : FuncData
  F_law : Fun K "law" "law" s_law a_law fd_law
  g_law : mg "law" = some (.ref a_law)
  b_law : Binds K fd_law ["_law_script"] []
  m_abs : mg "abs" = none
  m_all : mg "all" = none
  m_any : mg "any" = none
  m_bool : mg "bool" = none
  m_int : mg "int" = none
  m_isinstance : mg "isinstance" = none
  m_len : mg "len" = none
  m_list : mg "list" = none
  m_max : mg "max" = none
  m_min : mg "min" = none
  m_range : mg "range" = none
  m_set : mg "set" = none
  m_sorted : mg "sorted" = none
  m_tuple : mg "tuple" = none
  tk_LEAST_POSTS : Tok
  m_LEAST_POSTS : mg "LEAST_POSTS" = some (.int 3 tk_LEAST_POSTS)
  tk_MOST_POSTS : Tok
  m_MOST_POSTS : mg "MOST_POSTS" = some (.int 12 tk_MOST_POSTS)
  m_combinations : mg "combinations" = some (.type "itertools.combinations")
section
variable {P : Program} {w : World} {K : PySem.W.Frag} {mg : Str → Option Value} {base : Heap}

/-! ### the row of numbers that the script makes -/
def rowOk (rs : List Int) : Prop := ∀ v ∈ rs, 0 ≤ v ∧ v < 1000000
theorem rowOk_nil : rowOk [] := fun _ h => by cases h
theorem rowOk_add {rs : List Int} {v : Int} (h : rowOk rs) (h0 : 0 ≤ v) (h1 : v < 1000000) : rowOk (rs ++ [v]) := fun x hx => by
  rcases List.mem_append.mp hx with q | q
  · exact h x q
  · rw [List.mem_singleton.mp q]
    exact ⟨h0, h1⟩
def sp_flow (K : PySem.W.Frag) : Sp := fun vs H Q _ => ∃ (a : Addr) (ns : List Int) (m : Int), vs = [.ref a, .int m] ∧ SqL K H a (ns.map V.int) ∧ ns.length ≤ 63 ∧ 0 ≤ m ∧ m ≤ 1000 ∧
  ∀ H' p (rs : List Int), Same H H' → H p = none → rs.length = m.toNat → rowOk rs → H' p = some (.lst (rs.map V.int)) → Q (.ref p) H'
def flowInv (a : Addr) (m : Int) (p : Addr) (H : Hp) : Nat → L2.St → Hp → Prop := fun i σ H' => ∃ (g : Int) (rs : List Int) (k c x : Option V),
  σ = [some (.ref a), some (.int m), some (.int g), some (.ref p), k, c, x] ∧ Same H H' ∧ H' p = some (.lst (rs.map V.int)) ∧ rs.length = i ∧ rowOk rs
theorem mod_in (x : Int) : 0 ≤ x % 1000000 ∧ x % 1000000 < 1000000 := ⟨Int.emod_nonneg _ (by decide), Int.emod_lt_of_pos _ (by decide)⟩
theorem flow_turn {a p : Addr} {m g z : Int} {H H' : Hp} {i : Nat} {rs : List Int} {k c x : Option V} (hs : Same H H') (hp : H p = none) (hrl : rs.length = i) (hro : rowOk rs) :
    flowInv a m p H (i + 1) [some (.ref a), some (.int m), some (.int g), some (.ref p), k, c, x] (upd H' p (.lst (rs.map V.int ++ [V.int (z % 1000000)]))) := by
  refine ⟨g, rs ++ [z % 1000000], k, c, x, rfl, same_put hs hp, ?_, by rw [List.length_append, hrl]; rfl, rowOk_add hro (mod_in z).1 (mod_in z).2⟩
  rw [upd_same, List.map_append]; rfl
theorem mod_at {ns : List Int} (h : 0 < ns.length) (k : Nat) : ∃ z, atI (ns.map V.int) ((k : Int) % (ns.length : Int)) = some (.int z) := by
  have hk : k % ns.length < ns.length := Nat.mod_lt _ h
  refine ⟨ns[k % ns.length], ?_⟩
  rw [← Int.natCast_emod]
  refine atI_nat ?_
  rw [List.getElem?_map, List.getElem?_eq_getElem hk]
  rfl
theorem ok__law_flow (T : Env K mg) : FnOk P w K mg base CX0 1 T.a__law_flow T.fd__law_flow ["_law_script", "_law_many_here"] (sp_flow K) := by
  refine T.F__law_flow.ok sc__law_flow (fun vs H Q E h => ?_) (fun cdv A outer s H vs Q E hr h => ?_)
  · obtain ⟨a, ns, m, rfl, _⟩ := h
    rfl
  · obtain ⟨a, ns, m, rfl, hS, hl, hm0, hm1, q⟩ := h
    refine ⟨_, (pss_cons (ps_set (i := 2) sc__law_flow.nd rfl (.inl rfl) pe_int)
 (C8.pss_cut (ps_if (PW.pt (pw_and (pt_cmpR op_gt (pe_callB call_len_seq (by rfl) T.m_len (by decide +kernel) (pa_cons (pv 0) pa_nil)) pe_int (nomark _)) (pw_and1 (pt_cmpR op_ge (pe_callB call_abs (by rfl) T.m_abs (by decide +kernel) (pa_cons (pe_ix ix_list (pv 0) pe_int (fun _ _ => rfl)) pa_nil)) (pe_op op_pow pe_int pe_int) (nomark _)))))
 (pss_one (ps_set (i := 2) sc__law_flow.nd rfl (.inl rfl) (pe_op op_sub (pe_callB call_abs (by rfl) T.m_abs (by decide +kernel) (pa_cons (pe_ix ix_list (pv 0) pe_int (fun _ _ => rfl)) pa_nil)) (pe_op op_pow pe_int pe_int))))
 pss_nil)
 (pss_cons (ps_set (i := 3) sc__law_flow.nd rfl (.inl rfl) (pe_lst pa_nil))
 (pss_cons (ps_for PassesOwn.never rfl (pi_range1 (by rfl) T.m_range (pa_cons (pv 1) pa_nil)) (pg_name (i := 4) sc__law_flow.nd rfl (.inl rfl))
 (pss_one (ps_if (pt_cmpR op_gt (pv 2) pe_int (nomark _))
 (pss_cons (ps_expr (pe_bm PySem.F.plainAttrs_list PySem.F.slot_list_append PySem.F.type_list_append mt_append (pv 3) (pa_cons (pe_op op_mod (pv 2) pe_int) pa_nil)))
 (pss_one (ps_set (i := 2) sc__law_flow.nd rfl (.inl rfl) (pe_op op_fdiv (pv 2) pe_int))))
 (pss_cons (ps_set (i := 5) sc__law_flow.nd rfl (.inl rfl) (pe_op op_add (pv 4) pe_int))
 (C8.pss_cut (ps_if (pt_cmpR op_gt (pe_callB call_len_seq (by rfl) T.m_len (by decide +kernel) (pa_cons (pv 0) pa_nil)) pe_int (nomark _))
 (pss_one (ps_set (i := 5) sc__law_flow.nd rfl (.inl rfl) (pe_ix ix_list (pv 0) (pe_op op_mod (pv 4) (pe_callB call_len_seq (by rfl) T.m_len (by decide +kernel) (pa_cons (pv 0) pa_nil))) (fun _ _ => rfl))))
 pss_nil)
 (pss_cons (ps_set (i := 6) sc__law_flow.nd rfl (.inl rfl) (pe_op op_mod (pe_op op_add (pe_op op_add (pe_op op_mulU (pv 5) pe_int) (pe_op op_mulU (pv 4) pe_int)) pe_int) pe_int))
 (pss_cons (ps_set (i := 6) sc__law_flow.nd rfl (.inl rfl) (pe_op op_mod (pe_op op_add (pe_op op_add (pe_op op_mulU (pv 6) pe_int) (pe_op op_mulU (pv 4) pe_int)) (pe_callB call_len_seq (by rfl) T.m_len (by decide +kernel) (pa_cons (pv 0) pa_nil))) pe_int))
 (pss_one (ps_expr (pe_bm PySem.F.plainAttrs_list PySem.F.slot_list_append PySem.F.type_list_append mt_append (pv 3) (pa_cons (pe_op op_mod (pe_op op_fdiv (pv 6) pe_int) pe_int) pa_nil)))))))))))
 (pss_one (ps_ret (pv 3))))))), ?_⟩
    have hlen : (ns.map V.int).length = ns.length := List.length_map _
    refine ⟨fun σ' H' => ∃ g : Int, σ' = [some (.ref a), some (.int m), some (.int g), none, none, none, none] ∧ H = H', ?_, ?_⟩
    · refine ⟨_, rfl, _, _, rfl, .inl hS, _, _, rfl, rfl, _, rfl, ite2 (fun hd => ?_) (fun _ => ⟨_, rfl, rfl⟩)⟩
      have h0 : 0 < ns.length := by
        have := of_decide_eq_true hd
        rw [hlen] at this
        omega
      obtain ⟨z, hz⟩ := mod_at h0 0
      have hz0 : atI (ns.map V.int) 0 = some (.int z) := by
        have e : ((0 : Nat) : Int) % (ns.length : Int) = 0 := by simp
        rw [e] at hz
        exact hz
      refine ⟨_, rfl, a, _, _, _, rfl, rfl, hS, hz0, _, rfl, _, _, rfl, rfl, ⟨by decide, by decide, by decide⟩, _, _, rfl, rfl, _, rfl, ?_⟩
      refine ite2 (fun _ => ?_) (fun _ => ⟨_, rfl, rfl⟩)
      exact ⟨_, rfl, a, _, _, _, rfl, rfl, hS, hz0, _, rfl, _, _, rfl, rfl, ⟨by decide, by decide, by decide⟩, _, _, rfl, rfl, _, rfl, rfl⟩
    · rintro _ _ ⟨g, rfl, rfl⟩
      refine ⟨Nat.zero_le _, fun p hp => ?_⟩
      refine ⟨_, rfl, m, rfl, by omega, by omega, for_range (lo := 0) (n := m.toNat) (flowInv a m p H) ⟨g, [], none, none, none, rfl, same_new hp, upd_same, rfl, rowOk_nil⟩ ?_ ?_⟩
      · rintro i σ H' hi ⟨g, rs, k, c, x, rfl, hs, hpl, hrl, hro⟩
        have hA := hs.seq hS
        have hsz : (rs.map V.int).length < sizeLine := by rw [List.length_map]; exact small1000 (by omega)
        refine ⟨_, rfl, _, _, rfl, rfl, _, rfl, ite2 (fun _ => ?_) (fun _ => ?_)⟩
        · refine ⟨_, rfl, .inl ⟨rfl, _, .inl (.inl hpl)⟩, _, rfl, _, _, rfl, rfl, (by show (0 : Int) < _; decide), p, _, _, rfl, rfl, hpl, hsz, ?_⟩
          refine ⟨_, rfl, _, _, rfl, rfl, ⟨by decide, by decide⟩, ?_⟩
          exact flow_turn hs hp hrl hro
        · refine ⟨_, rfl, _, _, rfl, rfl, ?_⟩
          refine ⟨fun σ' H2 => ∃ cell : Int, σ' = [some (.ref a), some (.int m), some (.int g), some (.ref p), some (.int (0 + (i : Int))), some (.int cell), x] ∧ H' = H2, ?_, ?_⟩
          · refine ⟨_, rfl, _, _, rfl, .inl hA, _, _, rfl, rfl, _, rfl, ite2 (fun hd => ?_) (fun _ => ⟨_, rfl, rfl⟩)⟩
            have h0 : 0 < ns.length := by
              have := of_decide_eq_true hd
              rw [hlen] at this
              omega
            obtain ⟨z, hz⟩ := mod_at h0 i
            refine ⟨_, rfl, _, rfl, _, rfl, _, _, rfl, .inl hA, _, _, rfl, rfl, (by rw [hlen]; omega), a, _, _, .int z, rfl, rfl, hA, ?_, ⟨z, rfl, rfl⟩⟩
            rw [hlen, Int.zero_add]
            exact hz
          · rintro _ _ ⟨cell, rfl, rfl⟩
            refine ⟨_, rfl, _, _, rfl, rfl, mulR (by decide) (by decide), _, rfl, _, _, rfl, rfl, mulR (by decide) (by decide), _, _, rfl, rfl, _, _, rfl, rfl, _, _, rfl, rfl, (by show (0 : Int) < _; decide), ?_⟩
            refine ⟨_, rfl, _, _, rfl, rfl, mulR (by decide) (by decide), _, rfl, _, _, rfl, rfl, mulR (by decide) (by decide), _, _, rfl, rfl, _, rfl, _, _, rfl, .inl hA, _, _, rfl, rfl, _, _, rfl, rfl, (by show (0 : Int) < _; decide), ?_⟩
            refine ⟨_, rfl, .inl ⟨rfl, _, .inl (.inl hpl)⟩, _, rfl, _, _, rfl, rfl, ⟨by decide, by decide⟩, _, _, rfl, rfl, (by show (0 : Int) < _; decide), p, _, _, rfl, rfl, hpl, hsz, ?_⟩
            exact flow_turn hs hp hrl hro
      · rintro σ H' ⟨g, rs, k, c, x, rfl, hs, hpl, hrl, hro⟩
        exact ⟨_, rfl, q H' p rs hs hp hrl hro hpl⟩

namespace Cb
theorem mro_cb : mroOf (.type "itertools.combinations") = pure [.type "itertools.combinations", .type "object"] := by rw [mroOf_type]; kernel_rfl
theorem look_cb : typeLookup (.type "itertools.combinations") "__new__" = pure (some (.builtin "itertools.combinations.__new__")) := by rw [typeLookup_type, builtinLookup_eq_fast]; kernel_rfl
theorem slot_cb_init : Slot "itertools.combinations" "__init__" "object.__init__" :=
  .of (owner := "object") (n := "__init__") (by rw [typeLookup_type, builtinLookup_eq_fast]; kernel_rfl) (by decide +kernel) (by decide +kernel) (by decide +kernel)
    (by first | exact .inl (by decide +kernel) | exact .inr (by decide +kernel)) (by rw [isSubtype_type]; kernel_rfl)
theorem sub_cb : isSubtype (.type "itertools.combinations") (.type "itertools.combinations") = pure true := by rw [isSubtype_type]; kernel_rfl
theorem called_cb : TypeCalled "itertools.combinations" "itertools.combinations.__new__" "object.__init__" :=
  ⟨by decide +kernel, by decide +kernel, ⟨_, _, mro_cb⟩, madeBy_type mro_cb look_cb (by decide +kernel), by decide +kernel, sub_cb, slot_cb_init⟩
theorem typeCall_cb (a b : Value) : checkTypeCall "itertools.combinations" ⟨[a, b], []⟩ = pure () := by kernel_rfl
theorem newCall_cb (a b : Value) : checkBuiltinCall "itertools.combinations.__new__" ⟨[.type "itertools.combinations", a, b], []⟩ = pure () := by kernel_rfl
theorem entry_cb_new : entryFor table "itertools.combinations.__new__" = some Builtin.«itertools.combinations.__new__» := entryFor_of_tree (by kernel_rfl)
theorem plain_cb_new : plainId "itertools.combinations.__new__" = true := by decide +kernel
theorem slot_cb_iter : Slot "itertools.combinations" "__iter__" "itertools.combinations.__iter__" :=
  .of (owner := "itertools.combinations") (n := "__iter__") (by rw [typeLookup_type, builtinLookup_eq_fast]; kernel_rfl) (by decide +kernel) (by decide +kernel) (by decide +kernel)
    (by first | exact .inl (by decide +kernel) | exact .inr (by decide +kernel)) sub_cb
theorem slot_cb_next : Slot "itertools.combinations" "__next__" "itertools.combinations.__next__" :=
  .of (owner := "itertools.combinations") (n := "__next__") (by rw [typeLookup_type, builtinLookup_eq_fast]; kernel_rfl) (by decide +kernel) (by decide +kernel) (by decide +kernel)
    (by first | exact .inl (by decide +kernel) | exact .inr (by decide +kernel)) sub_cb
theorem entry_cb_iter : entryFor table "itertools.combinations.__iter__" = some Builtin.«dict_keyiterator.__iter__» :=
  entryFor_alias (id' := "dict_keyiterator.__iter__") (by kernel_rfl) (by first | rfl | decide +kernel | (unfold String.splitOn; simp +decide [String.splitOnAux])) (by decide +kernel) (by kernel_rfl)
theorem entry_cb_next : entryFor table "itertools.combinations.__next__" = some Builtin.«itertools.combinations.__next__» := entryFor_of_tree (by kernel_rfl)
theorem owner_cb : Manifest.owners.lookup (String.ofList ['s', 'n', 'o', 'i', 't', 'a', 'n', 'i', 'b', 'm', 'o', 'c', '.', 's', 'l', 'o', 'o', 't', 'r', 'e', 't', 'i'].reverse) = some Manifest.sig_itertools_combinations := by kernel_rfl
theorem args_cb_iter (a : Value) : argsOk "itertools.combinations.__iter__" ⟨[a], []⟩ := by
  unfold argsOk; rw [signature?_of (id := "itertools.combinations.__iter__") (n := ['_', '_', 'r', 'e', 't', 'i', '_', '_']) (o := ['s', 'n', 'o', 'i', 't', 'a', 'n', 'i', 'b', 'm', 'o', 'c', '.', 's', 'l', 'o', 'o', 't', 'r', 'e', 't', 'i']) (by kernel_rfl) owner_cb]; kernel_rfl
theorem args_cb_next (a : Value) : argsOk "itertools.combinations.__next__" ⟨[a], []⟩ := by
  unfold argsOk; rw [signature?_of (id := "itertools.combinations.__next__") (n := ['_', '_', 't', 'x', 'e', 'n', '_', '_']) (o := ['s', 'n', 'o', 'i', 't', 'a', 'n', 'i', 'b', 'm', 'o', 'c', '.', 's', 'l', 'o', 'o', 't', 'r', 'e', 't', 'i']) (by kernel_rfl) owner_cb]; kernel_rfl
theorem noDict_cb : typeHasDict (.type "itertools.combinations") = false := by decide +kernel
def cbF (P : Addr) (st : Int) (res : Value) (idx : List Nat) : Array Value := (Value.ref P :: rawInt st :: res :: idx.map fun (i : Nat) => rawInt i).toArray
abbrev IsCb (h : Heap) (c P : Addr) (st : Int) (res : Value) (idx : List Nat) : Prop := h.get? c = some { cls := .type "itertools.combinations", dict := none, data := .fields (cbF P st res idx), slots := #[] }
end Cb
namespace Cb
/-- the indices behind these -/
def nxt (n : Nat) (v : List Nat) : Option (List Nat) :=
  match ((List.range v.length).reverse.find? fun q => v.getD q 0 != q + n - v.length) with
  | none => none
  | some q => some (v.take q ++ (List.range (v.length - q)).map (v.getD q 0 + 1 + ·))
section
variable {prog : Program} {w : World} {A : Around} {E : Value → Shared → Prop} {s : Shared}
theorem nums_cb (P : Addr) (st : Int) (res : Value) (idx : List Nat) : (((cbF P st res idx).toList.drop 3).map fun v => match v with | .int n _ => n.toNat | _ => 0) = idx := by
  unfold cbF
  simp only [List.drop_succ_cons, List.drop_zero, List.map_map]
  rw [show ((fun v : Value => match v with | .int n _ => n.toNat | _ => 0) ∘ fun (i : Nat) => rawInt (i : Int)) = id from funext fun i => by simp [rawInt]]
  simp
theorem cbF_size (P : Addr) (st : Int) (res : Value) (idx : List Nat) : (cbF P st res idx).size = idx.length + 3 := by unfold cbF; simp
theorem cbF_st {P : Addr} {st st' : Int} {res : Value} {idx : List Nat} : (cbF P st res idx).setIfInBounds 1 (rawInt st') = cbF P st' res idx := by unfold cbF; simp
theorem cbF_res {P : Addr} {st : Int} {res res' : Value} {idx : List Nat} : (cbF P st res idx).setIfInBounds 2 res' = cbF P st res' idx := by unfold cbF; simp
theorem cbF_idx {P : Addr} {st : Int} {res : Value} {idx idx' : List Nat} : (cbF P st res idx).extract 0 3 ++ (idx'.map fun (i : Nat) => rawInt i).toArray = cbF P st res idx' := by unfold cbF; simp
/-- the picked tuple -/
def pickT (items : Array Value) (idx : List Nat) : Obj := { cls := .type "tuple", data := .seq (idx.map fun i => items.getD i .none).toArray }
theorem hand_cb {c P : Addr} {st : Int} {res : Value} {idx ix : List Nat} {items : Array Value} {Q : Value → Shared → Prop}
    (hc : IsCb s.heap c P st res idx) (hP : IsTup s.heap P items) (hl : ix.length ≤ 100)
    (hQ : ∀ h', IsCb h' c P st (.ref s.heap.objs.size) idx → h'.get? s.heap.objs.size = some (pickT items ix) → (∀ b o, b ≠ c → s.heap.get? b = some o → h'.get? b = some o) → h'.objs.size = s.heap.objs.size + 1 →
      Q (.ref s.heap.objs.size) { s with heap := h' }) :
    wpAny (model prog w) A ((Builtin.Itertools.itPoolItems (.ref P) >>= fun xs => newTuple (ix.map fun i => xs.getD i .none)) >>= fun result => field (.ref c) 2 >>= fun before => setField (.ref c) 2 result >>= fun _ => letGo [before] [result] >>= fun _ => ret result)
      (fun fin s' => ∃ v, fin = .done (.ret v) ∧ Q v s') E s := by
  obtain ⟨oP, eP, cP, nP, dP⟩ := id hP
  refine wpAny_bind (wpAny_bind ?_)
  show wpAny _ _ (seqItems? (.ref P) >>= _) _ _ _
  refine wpAny_bind (wpAny_seqItems eP dP (wpAny_pure ?_))
  refine wpAny_newTuple ?_ (by rw [List.length_map, sizeLine_eq]; omega)
  have hlt : c < s.heap.objs.size := Heap.lt_size hc
  have hc1 : IsCb (s.heap.push { cls := .type "tuple", data := .seq (ix.map fun i => items.getD i .none).toArray }) c P st res idx := Heap.get?_push_of_some _ hc
  refine wpAny_bind (wpAny_field hc1 rfl (x := res) rfl ?_)
  refine wpAny_bind (wpAny_setField_rec hc1 (by rw [cbF_size]; omega) fun h2 hc2 hs2 => ?_)
  rw [cbF_res] at hc2
  refine wpAny_bind (wpAny_letGo (wpAny_pure ⟨_, rfl, ?_⟩))
  refine hQ h2 hc2 ?_ (fun b o hb e => (hs2.2 b hb).trans (Heap.get?_push_of_some _ e)) ?_
  · exact (hs2.2 _ (Nat.ne_of_gt hlt)).trans (Heap.get?_push_size _ rfl)
  · rw [hs2.1, Heap.size_push]
theorem next_first {c P : Addr} {res : Value} {idx : List Nat} {items : Array Value} {Q : Value → Shared → Prop}
    (hc : IsCb s.heap c P 0 res idx) (hP : IsTup s.heap P items) (hl : idx.length ≤ 100)
    (hQ : ∀ h', IsCb h' c P 1 (.ref s.heap.objs.size) idx → h'.get? s.heap.objs.size = some (pickT items idx) → (∀ b o, b ≠ c → s.heap.get? b = some o → h'.get? b = some o) → h'.objs.size = s.heap.objs.size + 1 →
      Q (.ref s.heap.objs.size) { s with heap := h' }) (hcP : c ≠ P) :
    wpAny (model prog w) A (Builtin.«itertools.combinations.__next__» ⟨[.ref c], []⟩) (fun fin s' => ∃ v, fin = .done (.ret v) ∧ Q v s') E s := by
  show wpAny _ _ (field (.ref c) 0 >>= _) _ _ _
  refine wpAny_bind (wpAny_field hc rfl (x := .ref P) rfl ?_)
  show wpAny _ _ (Builtin.Itertools.itNumbersFrom (.ref c) 3 >>= _) _ _ _
  refine wpAny_bind ?_
  show wpAny _ _ (load c >>= _) _ _ _
  refine wpAny_bind (wpAny_load hc (wpAny_pure ?_))
  generalize he : List.map _ (List.drop 3 (cbF P 0 res idx).toList) = ix
  have he2 : ix = idx := he.symm.trans (nums_cb P 0 res idx)
  subst he2
  show wpAny _ _ (Builtin.Itertools.itIntField (.ref c) 1 >>= _) _ _ _
  refine wpAny_bind ?_
  show wpAny _ _ (field (.ref c) 1 >>= _) _ _ _
  refine wpAny_bind (wpAny_field hc rfl (x := rawInt 0) rfl (wpAny_pure ?_))
  show wpAny _ _ (setField (.ref c) 1 (rawInt 1) >>= _) _ _ _
  refine wpAny_bind (wpAny_setField_rec hc (by rw [cbF_size]; omega) fun h1 hc1 hs1 => ?_)
  rw [cbF_st] at hc1
  have hP1 : IsTup h1 P items := by
    obtain ⟨o, e, r⟩ := hP
    exact ⟨o, (hs1.2 P hcP.symm).trans e, r⟩
  refine hand_cb hc1 hP1 hl fun h' a1 a2 a3 a4 => ?_
  have ez : h1.objs.size = s.heap.objs.size := hs1.1
  have a1 : IsCb h' c P 1 (.ref h1.objs.size) ix := a1
  have a2 : h'.get? h1.objs.size = some (pickT items ix) := a2
  have a4 : h'.objs.size = h1.objs.size + 1 := a4
  rw [ez] at a1 a2 a4
  show Q (.ref h1.objs.size) _
  rw [ez]
  exact hQ h' a1 a2 (fun b o hb e => a3 b o hb ((hs1.2 b hb).trans e)) a4
theorem next_more {c P : Addr} {res : Value} {idx ix : List Nat} {items : Array Value} {Q : Value → Shared → Prop}
    (hc : IsCb s.heap c P 1 res idx) (hP : IsTup s.heap P items) (hn : nxt items.size idx = some ix) (hl : ix.length ≤ 100)
    (hQ : ∀ h', IsCb h' c P 1 (.ref s.heap.objs.size) ix → h'.get? s.heap.objs.size = some (pickT items ix) → (∀ b o, b ≠ c → s.heap.get? b = some o → h'.get? b = some o) → h'.objs.size = s.heap.objs.size + 1 →
      Q (.ref s.heap.objs.size) { s with heap := h' }) (hcP : c ≠ P) :
    wpAny (model prog w) A (Builtin.«itertools.combinations.__next__» ⟨[.ref c], []⟩) (fun fin s' => ∃ v, fin = .done (.ret v) ∧ Q v s') E s := by
  obtain ⟨oP, eP, cP, nP, dP⟩ := id hP
  show wpAny _ _ (field (.ref c) 0 >>= _) _ _ _
  refine wpAny_bind (wpAny_field hc rfl (x := .ref P) rfl ?_)
  show wpAny _ _ (Builtin.Itertools.itNumbersFrom (.ref c) 3 >>= _) _ _ _
  refine wpAny_bind ?_
  show wpAny _ _ (load c >>= _) _ _ _
  refine wpAny_bind (wpAny_load hc (wpAny_pure ?_))
  generalize he : List.map _ (List.drop 3 (cbF P 1 res idx).toList) = iy
  have he2 : iy = idx := he.symm.trans (nums_cb P 1 res idx)
  subst he2
  show wpAny _ _ (Builtin.Itertools.itIntField (.ref c) 1 >>= _) _ _ _
  refine wpAny_bind ?_
  show wpAny _ _ (field (.ref c) 1 >>= _) _ _ _
  refine wpAny_bind (wpAny_field hc rfl (x := rawInt 1) rfl (wpAny_pure ?_))
  show wpAny _ _ (Builtin.Itertools.itPoolItems (.ref P) >>= _) _ _ _
  refine wpAny_bind ?_
  show wpAny _ _ (seqItems? (.ref P) >>= _) _ _ _
  refine wpAny_bind (wpAny_seqItems eP dP (wpAny_pure ?_))
  split
  · rename_i iz hz
    have hz2 : nxt items.size iy = some iz := hz
    rw [hn] at hz2
    obtain rfl := Option.some.inj hz2
    show wpAny _ _ (updateFields c _ >>= _) _ _ _
    refine wpAny_bind (wpAny_updateFields hc rfl ?_ ?_)
    · have hs1 := Heap.SameBut.update s.heap c (Obj.mapFields fun fs => fs.extract 0 3 ++ (ix.map fun (n : Nat) => rawInt n).toArray)
      have hc1 : IsCb (s.heap.update c (Obj.mapFields fun fs => fs.extract 0 3 ++ (ix.map fun (n : Nat) => rawInt n).toArray)) c P 1 res ix := by
        have := Heap.get?_update_self (Obj.mapFields fun fs => fs.extract 0 3 ++ (ix.map fun (n : Nat) => rawInt n).toArray) hc rfl
        refine this.trans ?_
        show some ({ cls := .type "itertools.combinations", dict := none, data := .fields ((cbF P 1 res iy).extract 0 3 ++ (ix.map fun (n : Nat) => rawInt n).toArray), slots := #[] } : Obj) = _
        rw [cbF_idx]
      generalize s.heap.update c _ = h1 at *
      have hP1 : IsTup h1 P items := by
        obtain ⟨o, e, r⟩ := hP
        exact ⟨o, (hs1.2 P hcP.symm).trans e, r⟩
      refine hand_cb hc1 hP1 hl fun h' a1 a2 a3 a4 => ?_
      have ez : h1.objs.size = s.heap.objs.size := hs1.1
      have a1 : IsCb h' c P 1 (.ref h1.objs.size) ix := a1
      have a2 : h'.get? h1.objs.size = some (pickT items ix) := a2
      have a4 : h'.objs.size = h1.objs.size + 1 := a4
      rw [ez] at a1 a2 a4
      show Q (.ref h1.objs.size) _
      rw [ez]
      exact hQ h' a1 a2 (fun b o hb e => a3 b o hb ((hs1.2 b hb).trans e)) a4
    · rw [cbF_idx, cbF_size, sizeLine_eq]
      omega
  · rename_i hz
    have hz2 : nxt items.size iy = none := hz
    rw [hn] at hz2
    cases hz2
theorem next_end {c P : Addr} {res : Value} {idx : List Nat} {items : Array Value} {Q : Fin → Shared → Prop}
    (hh : A.handled = none) (hc : IsCb s.heap c P 1 res idx) (hP : IsTup s.heap P items) (hn : nxt items.size idx = none)
    (hE : ∀ h' e, (∀ b o, b ≠ c → s.heap.get? b = some o → h'.get? b = some o) → (∃ o, h'.get? e = some o ∧ o.cls = .type "StopIteration") → E (.ref e) { s with heap := h' }) :
    wpAny (model prog w) A (Builtin.«itertools.combinations.__next__» ⟨[.ref c], []⟩) Q E s := by
  obtain ⟨oP, eP, cP, nP, dP⟩ := id hP
  show wpAny _ _ (field (.ref c) 0 >>= _) _ _ _
  refine wpAny_bind (wpAny_field hc rfl (x := .ref P) rfl ?_)
  show wpAny _ _ (Builtin.Itertools.itNumbersFrom (.ref c) 3 >>= _) _ _ _
  refine wpAny_bind ?_
  show wpAny _ _ (load c >>= _) _ _ _
  refine wpAny_bind (wpAny_load hc (wpAny_pure ?_))
  generalize he : List.map _ (List.drop 3 (cbF P 1 res idx).toList) = iy
  have he2 : iy = idx := he.symm.trans (nums_cb P 1 res idx)
  subst he2
  show wpAny _ _ (Builtin.Itertools.itIntField (.ref c) 1 >>= _) _ _ _
  refine wpAny_bind ?_
  show wpAny _ _ (field (.ref c) 1 >>= _) _ _ _
  refine wpAny_bind (wpAny_field hc rfl (x := rawInt 1) rfl (wpAny_pure ?_))
  show wpAny _ _ (Builtin.Itertools.itPoolItems (.ref P) >>= _) _ _ _
  refine wpAny_bind ?_
  show wpAny _ _ (seqItems? (.ref P) >>= _) _ _ _
  refine wpAny_bind (wpAny_seqItems eP dP (wpAny_pure ?_))
  split
  · rename_i iz hz
    have hz2 : nxt items.size iy = some iz := hz
    rw [hn] at hz2
    cases hz2
  · refine wpAny_bind (wpAny_setField_rec hc (by rw [cbF_size]; omega) fun h1 hc1 hs1 => ?_)
    show wpAny _ _ (newExc (.type "StopIteration") [] >>= _) _ _ _
    refine wpAny_bind ?_
    simp only [newExc, newTuple]
    refine wpAny_bind (wpAny_newObj_type ?_ (by size_fits))
    refine wpAny_bind (m := firstArgMember _ _) (wpAny_of_eq (a := Value.none) (by first | rfl | (simp only [firstArgMember]; rfl)) ?_)
    refine wpAny_newObj_type ?_ (by size_fits)
    simp only [raiseNew]
    refine wpAny_bind (wpAny_handled ?_)
    first | rw [show A.in1.handled = none from hh] | rw [hh]
    refine wpAny_bind (wpAny_pure (wpAny_throw ?_))
    exact hE _ _ (fun b o hb e => Heap.get?_push_of_some _ (Heap.get?_push_of_some _ ((hs1.2 b hb).trans e))) ⟨_, Heap.get?_push_size _ rfl, rfl⟩
theorem next_over {c P : Addr} {res : Value} {idx : List Nat} {Q : Fin → Shared → Prop}
    (hh : A.handled = none) (hc : IsCb s.heap c P 2 res idx)
    (hE : ∀ h' e, (∀ b o, b ≠ c → s.heap.get? b = some o → h'.get? b = some o) → (∃ o, h'.get? e = some o ∧ o.cls = .type "StopIteration") → E (.ref e) { s with heap := h' }) :
    wpAny (model prog w) A (Builtin.«itertools.combinations.__next__» ⟨[.ref c], []⟩) Q E s := by
  show wpAny _ _ (field (.ref c) 0 >>= _) _ _ _
  refine wpAny_bind (wpAny_field hc rfl (x := .ref P) rfl ?_)
  show wpAny _ _ (Builtin.Itertools.itNumbersFrom (.ref c) 3 >>= _) _ _ _
  refine wpAny_bind ?_
  show wpAny _ _ (load c >>= _) _ _ _
  refine wpAny_bind (wpAny_load hc (wpAny_pure ?_))
  show wpAny _ _ (Builtin.Itertools.itIntField (.ref c) 1 >>= _) _ _ _
  refine wpAny_bind ?_
  show wpAny _ _ (field (.ref c) 1 >>= _) _ _ _
  refine wpAny_bind (wpAny_field hc rfl (x := rawInt 2) rfl (wpAny_pure ?_))
  show wpAny _ _ (rule "itertools.combinations.ended" >>= _) _ _ _
  refine wpAny_bind (wpAny_rule ?_)
  show wpAny _ _ (newExc (.type "StopIteration") [] >>= _) _ _ _
  refine wpAny_bind ?_
  simp only [newExc, newTuple]
  refine wpAny_bind (wpAny_newObj_type ?_ (by size_fits))
  refine wpAny_bind (m := firstArgMember _ _) (wpAny_of_eq (a := Value.none) (by first | rfl | (simp only [firstArgMember]; rfl)) ?_)
  refine wpAny_newObj_type ?_ (by size_fits)
  simp only [raiseNew]
  refine wpAny_bind (wpAny_handled ?_)
  first | rw [show A.in1.handled = none from hh] | rw [hh]
  refine wpAny_bind (wpAny_pure (wpAny_throw ?_))
  exact hE _ _ (fun b o hb e => Heap.get?_push_of_some _ (Heap.get?_push_of_some _ e)) ⟨_, Heap.get?_push_size _ rfl, rfl⟩
end
end Cb
namespace Cb
section
variable {prog : Program} {w : World} {A : Around} {E : Value → Shared → Prop} {s : Shared}
/-- what collecting the items at r gives -/
def Col (prog : Program) (w : World) (s : Shared) (r : Addr) (Pa : Array Value → Prop) : Prop :=
  ∀ (A' : Around) (Q : List Value → Shared → Prop) (E : Value → Shared → Prop), A'.handled = none →
    (∀ (h' : Heap) (tk : Nat) (acc : Array Value), (∀ b o, s.heap.get? b = some o → h'.get? b = some o) → Pa acc → Q acc.toList { s with heap := h', toks := tk }) → wpAny (model prog w) A' (collect (.ref r)) Q E s
theorem new_cb {Q₁ : Value → Shared → Prop} {r : Addr} {k : Nat} {kt : Tok} {Pa : Array Value → Prop} (hh : A.handled = none) (hk : k ≤ 100) (hcol : Col prog w s r Pa) (hP : ∀ acc, Pa acc → acc.size ≤ 2 ^ 24)
    (h : ∀ (h' : Heap) (tk : Nat) (acc : Array Value), (∀ b o, s.heap.get? b = some o → h'.get? b = some o) → Pa acc →
      Q₁ (.ref (h'.objs.size + 1)) { s with heap := (h'.push { cls := .type "tuple", data := .seq acc }).push { cls := .type "itertools.combinations", data := .fields (cbF h'.objs.size (if k > acc.size then 2 else 0) .none (List.range k)) }, toks := tk }) :
    codeAny (model prog w) A (.call (.builtin "itertools.combinations.__new__") ⟨[.type "itertools.combinations", .ref r, .int k kt], []⟩) (wants Q₁ E) s := by
  refine codeAny_of_tree ?_
  show wpAny _ A.in1 (do checkBuiltinCall "itertools.combinations.__new__" ⟨[.type "itertools.combinations", .ref r, .int k kt], []⟩; again (.builtin "itertools.combinations.__new__" ⟨[.type "itertools.combinations", .ref r, .int k kt], []⟩)) _ _ s
  refine wpAny_bind (wpAny_of_eq (newCall_cb _ _) (wpAny_pure ⟨plainId_quiet plain_cb_new _, codeAny_builtin entry_cb_new ?_⟩))
  rw [Around.under_plainId plain_cb_new _]
  have hsub := sub_cb
  have hd := noDict_cb
  have hh1 : A.in1.handled = none := hh
  have hcol1 := fun Q E => hcol A.in1 Q E hh1
  have hT : ("itertools." ++ "combinations" : String) = "itertools.combinations" := by decide
  have h1 : ¬ ((decide ((k : Int) < -(2 ^ 63 : Int)) || decide ((k : Int) ≥ (2 ^ 63 : Int))) = true) := by
    rw [decide_eq_false (by omega), decide_eq_false (by omega)]
    decide
  have h2 : ¬ ((k : Int) < 0) := by omega
  have h3 : ¬ (Builtin.Itertools.itTooMany (k : Int) = true) := by
    unfold Builtin.Itertools.itTooMany
    rw [decide_eq_false (by omega)]
    decide
  repeat (first
      | (refine hcol1 _ _ fun h' tk acc hk' hacc => ?_)
      | wp_step
      | simp only [hT]
      | simp only [List.head?_cons, Option.some_or, List.getElem?_cons_succ, List.getElem?_cons_zero, List.length_cons, List.length_nil, List.forIn_nil]
      | (refine wpAny_ite_false (decide_eq_false h1) ?_)
      | (refine wpAny_ite_false (decide_eq_false h2) ?_)
      | (refine wpAny_ite_false (decide_eq_false h3) ?_))
  have hs : acc.toList.toArray.size ≤ sizeLine := by
    have := hP acc hacc
    rw [Array.toArray_toList, sizeLine_eq]
    omega
  refine wpAny_ite_false (decide_eq_false (Nat.not_lt.mpr hs)) ?_
  refine wpAny_newObjAsIs_type ?_
  rw [Array.toArray_toList]
  refine wpAny_pure ?_
  show wpAny _ _ (Builtin.Itertools.itNewRecord (.type "itertools.combinations") ([.ref h'.objs.size, rawInt (if (k : Int).toNat > acc.toList.length then 2 else 0), .none] ++ (List.range (k : Int).toNat).map fun (i : Nat) => rawInt i) >>= fun v => ret v) _ _ _
  rw [Int.toNat_natCast, Array.length_toList]
  refine wpAny_bind ?_
  unfold Builtin.Itertools.itNewRecord
  rw [hd]
  show wpAny _ _ (newObj (.type "itertools.combinations") (.fields (cbF h'.objs.size (if k > acc.size then 2 else 0) .none (List.range k)))) _ _ _
  refine wpAny_newObj_type ?_ (by first | exact trivial | (show (cbF _ _ _ _).size ≤ _; rw [cbF_size, List.length_range]; first | omega | (rw [sizeLine_eq]; omega)))
  refine wpAny_pure ?_
  have hz1 : (h'.push { cls := .type "tuple", data := .seq acc }).objs.size = h'.objs.size + 1 := Heap.size_push ..
  show Q₁ (.ref (h'.push { cls := .type "tuple", data := .seq acc }).objs.size) _
  rw [hz1]
  exact h h' tk acc hk' hacc
end
end Cb
namespace Cb
section
variable {prog : Program} {w : World} {A : Around} {E : Value → Shared → Prop} {s : Shared}
theorem pyIter_cb {c P : Addr} {st : Int} {res : Value} {idx : List Nat} {Q : Value → Shared → Prop} (hc : IsCb s.heap c P st res idx) (h : Q (.ref c) s) : wpAny (model prog w) A (pyIter (.ref c)) Q E s := by
  have hT : s.TypeIs (.ref c) "itertools.combinations" := ⟨_, hc, rfl⟩
  refine wpAny_pyIter_slot hT slot_cb_iter (wpAny_call_entry slot_cb_iter hT entry_cb_iter ?_ (args_cb_iter _))
  show wpAny _ _ (ret (.ref c)) _ _ s
  exact wpAny_pure ⟨_, rfl, "itertools.combinations", _, hT, slot_cb_next.lookup, h⟩
theorem pyNext_item {c : Addr} {Q : Option Value → Shared → Prop} (hT : s.TypeIs (.ref c) "itertools.combinations")
    (h : wpAny (model prog w) A.in1 (Builtin.«itertools.combinations.__next__» ⟨[.ref c], []⟩) (fun fin s' => ∃ v, fin = .done (.ret v) ∧ Q (some v) s') (fun _ _ => False) s) :
    wpAny (model prog w) A (pyNext (.ref c)) Q E s := by
  unfold pyNext
  refine wpAny_bind (wpAny_attempt (wpAny_callSpecial?_slot (name := Str.ofString "__next__") hT slot_cb_next (wpAny_call_entry slot_cb_next hT entry_cb_next (wpAny_mono h (fun fin s' q => ?_) (fun e s' q => q.elim)) (args_cb_next _))))
  obtain ⟨v, rfl, q⟩ := q
  exact ⟨v, rfl, wpAny_pure q⟩
theorem pyNext_end {c : Addr} {Q : Option Value → Shared → Prop} (hT : s.TypeIs (.ref c) "itertools.combinations")
    (h : wpAny (model prog w) A.in1 (Builtin.«itertools.combinations.__next__» ⟨[.ref c], []⟩) (fun _ _ => False) (fun e s' => ∃ a, e = .ref a ∧ (∃ o, s'.heap.get? a = some o ∧ o.cls = .type "StopIteration") ∧ Q none s') s) :
    wpAny (model prog w) A (pyNext (.ref c)) Q E s := by
  unfold pyNext
  refine wpAny_bind (wpAny_attempt (wpAny_callSpecial?_slot (name := Str.ofString "__next__") hT slot_cb_next (wpAny_call_entry slot_cb_next hT entry_cb_next (wpAny_mono h (fun fin s' q => q.elim) (fun e s' q => ?_)) (args_cb_next _))))
  obtain ⟨a, rfl, ⟨o, ho, hc⟩, q⟩ := q
  refine wpAny_bind (wpAny_isInstance (T := "StopIteration") (b := true) ⟨o, ho, hc⟩ isSubtype_stop ?_)
  exact wpAny_pure q
end
/-- the rows of places, in their order -/
structure CbL (n k : Nat) (L : List (List Nat)) : Prop where
  zero : n < k → L = []
  first : k ≤ n → L[0]? = some (List.range k)
  step : ∀ i v, L[i]? = some v → nxt n v = L[i + 1]?
  len : ∀ v ∈ L, v.length = k
def pickV (vs : List V) (ix : List Nat) : List V := ix.map fun j => vs.getD j .non
theorem vals_pick {vs : List V} {its : List Value} (h : Vals vs its) : ∀ ix : List Nat, Vals (pickV vs ix) (ix.map fun i => its.toArray.getD i .none)
  | [] => .nil
  | j :: ix => by
    refine .cons ?_ (vals_pick h ix)
    have hl := h.length
    show RelV (vs.getD j .non) (its.toArray.getD j .none)
    by_cases hj : j < vs.length
    · obtain ⟨u, hu, ru⟩ := h.get (List.getElem?_eq_getElem hj)
      have e1 : vs.getD j .non = vs[j] := by simp [List.getD_eq_getElem?_getD, List.getElem?_eq_getElem hj]
      have e2 : its.toArray.getD j .none = u := by simp [Array.getD_eq_getD_getElem?, hu]
      rw [e1, e2]
      exact ru
    · have e1 : vs.getD j .non = .non := by simp [List.getD_eq_getElem?_getD, List.getElem?_eq_none (Nat.le_of_not_lt hj)]
      have hj2 : its.length ≤ j := by omega
      have e2 : its.toArray.getD j .none = .none := by simp [Array.getD_eq_getD_getElem?, List.getElem?_eq_none hj2]
      rw [e1, e2]
      rfl
/-- the tuples of these places of vs, each new -/
def ItC (vs : List V) (L : List (List Nat)) : It :=
  ⟨fun i _ => i < L.length, fun i H v H' => ∃ T ix, L[i]? = some ix ∧ v = .ref T ∧ H T = none ∧ H' = upd H T (.tup (pickV vs ix)), fun i _ => L.length ≤ i⟩
def CbSt (c P : Addr) (its : List Value) (n k : Nat) (L : List (List Nat)) (i : Nat) (h : Heap) : Prop :=
  c ≠ P ∧ IsTup h P its.toArray ∧ ((n < k ∧ ∃ res ix, IsCb h c P 2 res ix) ∨ (k ≤ n ∧ ((i = 0 ∧ ∃ res, IsCb h c P 0 res (List.range k)) ∨ ∃ res ix j, i = j + 1 ∧ L[j]? = some ix ∧ IsCb h c P 1 res ix)))
theorem cbSt_at {c P : Addr} {its : List Value} {n k : Nat} {L : List (List Nat)} {i : Nat} {h : Heap} (st : CbSt c P its n k L i h) : ∃ (sv : Int) (res : Value) (ix : List Nat), IsCb h c P sv res ix := by
  obtain ⟨_, _, ⟨_, res, ix, e⟩ | ⟨_, ⟨_, res, e⟩ | ⟨res, ix, _, _, _, e⟩⟩⟩ := st
  · exact ⟨_, _, _, e⟩
  · exact ⟨_, _, _, e⟩
  · exact ⟨_, _, _, e⟩
theorem turn_cb {P : Program} {w : World} {K : PySem.W.Frag} {tg : Expr} {c p : Addr} {vs : List V} {its : List Value} {k : Nat} {L : List (List Nat)} (hv : Vals vs its) (hL : CbL vs.length k L) (hk : k ≤ 100) :
    Turn P w K tg (ItC vs L) [c, p] c (CbSt c p its vs.length k L) where
  mem := by simp
  obj := fun i h st b hb => by
    obtain ⟨sv, res, ix, e⟩ := cbSt_at st
    obtain ⟨_, ⟨o, e2, _, n, d2⟩, _⟩ := st
    have e' : b = c ∨ b = p := by simpa using hb
    rcases e' with q | q
    · rw [q]; exact ⟨_, e, fun v q => nomatch q⟩
    · rw [q]; exact ⟨o, e2, fun v q => by rw [d2] at q; cases q⟩
  keep := fun i h h' st hk => by
    obtain ⟨n1, ⟨o, e2, r2⟩, st⟩ := st
    refine ⟨n1, ⟨o, hk p (by simp) _ e2, r2⟩, ?_⟩
    rcases st with ⟨z, res, ix, e⟩ | ⟨z, ⟨z2, res, e⟩ | ⟨res, ix, j, z2, z3, e⟩⟩
    · exact .inl ⟨z, res, ix, hk c (by simp) _ e⟩
    · exact .inr ⟨z, .inl ⟨z2, res, hk c (by simp) _ e⟩⟩
    · exact .inr ⟨z, .inr ⟨res, ix, j, z2, z3, hk c (by simp) _ e⟩⟩
  item := by
    intro X hP hw hK hc i pins s σ H E I hf st hg
    subst hP hw hK
    have hg : i < L.length := hg
    have hvl := hv.length
    obtain ⟨sv, res0, ix0, e0⟩ := cbSt_at st
    have hT : s.TypeIs (.ref c) "itertools.combinations" := ⟨_, e0, rfl⟩
    have hlt : c < s.heap.objs.size := Heap.lt_size e0
    obtain ⟨n1, ht, st⟩ := st
    have hplt : p < s.heap.objs.size := ht.lt
    refine pyNext_item hT ?_
    have fin : ∀ ix h', L[i]? = some ix → IsCb h' c p 1 (.ref s.heap.objs.size) ix → h'.get? s.heap.objs.size = some (pickT its.toArray ix) → (∀ b o, b ≠ c → s.heap.get? b = some o → h'.get? b = some o) → h'.objs.size = s.heap.objs.size + 1 →
        ∃ u, some (Value.ref s.heap.objs.size) = some u ∧
          wpAny (model X.prog X.w) X.A (letOwnedTupleGo tg (.ref c) u) (fun _ s2 => ∃ x H', Inv X pins σ H' s2 ∧ RelV x u ∧ (ItC vs L).yld i H x H' ∧ CbSt c p its vs.length k L (i + 1) s2.heap ∧ ∀ b ∈ [c, p], H' b = none) E { s with heap := h' } := by
      intro ix h' hi a1 a2 a3 a4
      have hix : ix.length = k := hL.len ix (List.mem_of_getElem? hi)
      have hkn : k ≤ vs.length := by
        rcases Nat.lt_or_ge vs.length k with z | z
        · rw [hL.zero z] at hi; cases hi
        · exact z
      have new : ObjOk X.prog X.w (upd H s.heap.objs.size (.tup (pickV vs ix))) h' s.heap.objs.size (.tup (pickV vs ix)) :=
        ⟨by unfold pickV; rw [List.length_map, sizeLine_eq]; omega, _, vals_pick hv ix, ⟨_, a2, rfl, _, rfl⟩⟩
      have I1 : Inv X pins σ (upd H s.heap.objs.size (.tup (pickV vs ix))) { s with heap := h' } :=
        I.turnedNew (t' := s.toks) (ch := [c, p]) (fun b o hb q => a3 b o (fun q' => hb (by simp [q'])) q) hf (Nat.le_refl _) new
      refine ⟨_, rfl, go_of (s := { s with heap := h' }) (n := "itertools.combinations") a1 rfl rfl (by decide) ⟨.ref s.heap.objs.size, _, I1, rfl, ⟨_, ix, hi, rfl, I.hok.fresh (Nat.le_refl _), rfl⟩, ⟨n1, ?_, .inr ⟨hkn, .inr ⟨_, ix, i, rfl, hi, a1⟩⟩⟩, fun b hb => ?_⟩⟩
      · obtain ⟨o, e, r⟩ := ht
        exact ⟨o, a3 p o n1.symm e, r⟩
      · have hbl : b < s.heap.objs.size := by
          have e' : b = c ∨ b = p := by simpa using hb
          rcases e' with q | q
          · rw [q]; exact hlt
          · rw [q]; exact hplt
        rw [upd_ne (Nat.ne_of_lt hbl)]
        exact (hf b hb).1
    rcases st with ⟨z, _⟩ | ⟨z, ⟨z2, res, e⟩ | ⟨res, ix, j, z2, z3, e⟩⟩
    · rw [hL.zero z] at hg
      exact absurd hg (Nat.not_lt_zero _)
    · subst z2
      refine next_first (Q := fun v s' => (fun r s1 => ∃ u, r = some u ∧ wpAny (model X.prog X.w) X.A (letOwnedTupleGo tg (.ref c) u) (fun _ s2 => ∃ x H', Inv X pins σ H' s2 ∧ RelV x u ∧ (ItC vs L).yld 0 H x H' ∧ CbSt c p its vs.length k L (0 + 1) s2.heap ∧ ∀ b ∈ [c, p], H' b = none) E s1) (some v) s') e ht (by rw [List.length_range]; omega) (fun h' a1 a2 a3 a4 => fin _ h' (hL.first z) a1 a2 a3 a4) n1
    · subst z2
      have hs := hL.step j ix z3
      rw [List.getElem?_eq_getElem hg] at hs
      have hsz : its.toArray.size = vs.length := by rw [List.size_toArray, hvl]
      refine next_more (Q := fun v s' => (fun r s1 => ∃ u, r = some u ∧ wpAny (model X.prog X.w) X.A (letOwnedTupleGo tg (.ref c) u) (fun _ s2 => ∃ x H', Inv X pins σ H' s2 ∧ RelV x u ∧ (ItC vs L).yld (j + 1) H x H' ∧ CbSt c p its vs.length k L (j + 1 + 1) s2.heap ∧ ∀ b ∈ [c, p], H' b = none) E s1) (some v) s') (ix := L[j + 1]) e ht (by rw [hsz]; exact hs) (by rw [hL.len _ (List.getElem_mem hg)]; omega) (fun h' a1 a2 a3 a4 => fin _ h' (List.getElem?_eq_getElem hg) a1 a2 a3 a4) n1
  done := by
    intro X hP hw hK hc i pins s σ H E I hf st hg
    subst hP hw hK
    have hg : L.length ≤ i := hg
    have hvl := hv.length
    obtain ⟨sv, res0, ix0, e0⟩ := cbSt_at st
    have hT : s.TypeIs (.ref c) "itertools.combinations" := ⟨_, e0, rfl⟩
    obtain ⟨n1, ht, st⟩ := st
    have hh : X.A.in1.handled = none := I.ok.hd hc
    refine pyNext_end hT ?_
    have fin : ∀ (h' : Heap), (∀ b o, b ≠ c → s.heap.get? b = some o → h'.get? b = some o) → (none : Option Value) = none ∧ Inv X pins σ H { s with heap := h' } := fun h' hk =>
      ⟨rfl, I.turnedL (t' := s.toks) (ch := [c, p]) (fun b o hb q => hk b o (fun q' => hb (by simp [q'])) q) hf⟩
    rcases st with ⟨z, res, ix, e⟩ | ⟨z, ⟨z2, res, e⟩ | ⟨res, ix, j, z2, z3, e⟩⟩
    · exact next_over hh e fun h' a hk ha => ⟨a, rfl, ha, fin h' hk⟩
    · subst z2
      have := hL.first z
      rw [List.getElem?_eq_none hg] at this
      cases this
    · subst z2
      have hs := hL.step j ix z3
      rw [List.getElem?_eq_none hg] at hs
      have hsz : its.toArray.size = vs.length := by rw [List.size_toArray, hvl]
      exact next_end hh e ht (by rw [hsz]; exact hs) fun h' a hk ha => ⟨a, rfl, ha, fin h' hk⟩
  self := fun A i s Q E st h => by
    obtain ⟨sv, res, ix, e⟩ := cbSt_at st
    exact pyIter_cb e h
end Cb
namespace Cb
def iCbRg (te : L2.St → Hp → (Int → Int → Hp → Prop) → Prop) (k : Nat) : TI := fun σ H R => te σ H fun a b H1 => RgOk a b ∧ ∃ L, CbL (b - a).toNat k L ∧ R (ItC (rgV a b) L) H1
def iCbL (K : PySem.W.Frag) (te : TE) (k : Nat) : TI := fun σ H R => te σ H fun x H1 => ∃ a xs, x = .ref a ∧ SqL K H1 a xs ∧ xs.length ≤ 1000 ∧ ∃ L, CbL xs.length k L ∧ R (ItC xs L) H1
section
variable {X : Cx}
/-- the record once made -/
theorem made_cb {tg : Expr} {pins : List (Addr × Obj)} {σ : L2.St} {H1 : Hp} {s2 : Shared} {R : It → Hp → Prop} {vs : List V} {acc : Array Value} {k : Nat} {L : List (List Nat)} {h' : Heap} {tk : Nat} (I : Inv X pins σ H1 s2) (hk : k ≤ 100)
    (kp : ∀ b o, s2.heap.get? b = some o → h'.get? b = some o) (hv : Vals vs acc.toList) (hL : CbL vs.length k L) (q : R (ItC vs L) H1) :
    (Shared.TypeIs { s2 with heap := (h'.push { cls := .type "tuple", data := .seq acc }).push { cls := .type "itertools.combinations", data := .fields (cbF h'.objs.size (if k > acc.size then 2 else 0) .none (List.range k)) }, toks := tk } (.ref (h'.objs.size + 1)) "itertools.combinations") ∧
    wpAny (model X.prog X.w) X.A (pyIter (.ref (h'.objs.size + 1))) (PIE X pins σ tg R) X.xe { s2 with heap := (h'.push { cls := .type "tuple", data := .seq acc }).push { cls := .type "itertools.combinations", data := .fields (cbF h'.objs.size (if k > acc.size then 2 else 0) .none (List.range k)) }, toks := tk } := by
  have hz1 : (h'.push { cls := .type "tuple", data := .seq acc }).objs.size = h'.objs.size + 1 := Heap.size_push ..
  have g1 : ((h'.push { cls := .type "tuple", data := .seq acc }).push { cls := .type "itertools.combinations", data := .fields (cbF h'.objs.size (if k > acc.size then 2 else 0) .none (List.range k)) }).get? (h'.push { cls := .type "tuple", data := .seq acc }).objs.size = some _ := Heap.get?_push_size _ rfl
  rw [hz1] at g1
  have g2 : ((h'.push { cls := .type "tuple", data := .seq acc }).push { cls := .type "itertools.combinations", data := .fields (cbF h'.objs.size (if k > acc.size then 2 else 0) .none (List.range k)) }).get? h'.objs.size = some _ := Heap.get?_push_of_some _ (Heap.get?_push_size _ rfl)
  have kp2 : ∀ b o, s2.heap.get? b = some o → ((h'.push { cls := .type "tuple", data := .seq acc }).push { cls := .type "itertools.combinations", data := .fields (cbF h'.objs.size (if k > acc.size then 2 else 0) .none (List.range k)) }).get? b = some o := fun b o e => Heap.get?_push_of_some _ (Heap.get?_push_of_some _ (kp b o e))
  have I1 : Inv X pins σ H1 { s2 with heap := h', toks := tk } := I.kept kp
  have I2 : Inv X pins σ H1 { s2 with heap := (h'.push { cls := .type "tuple", data := .seq acc }).push { cls := .type "itertools.combinations", data := .fields (cbF h'.objs.size (if k > acc.size then 2 else 0) .none (List.range k)) }, toks := tk } := I.kept kp2
  have hvl : vs.length = acc.size := by rw [hv.length, Array.length_toList]
  refine ⟨⟨_, g1, rfl⟩, pyIter_cb g1 ⟨h'.objs.size + 1, [h'.objs.size + 1, h'.objs.size], CbSt (h'.objs.size + 1) h'.objs.size acc.toList vs.length k L, ItC vs L, H1, rfl, I2, turn_cb hv hL hk, ⟨Nat.succ_ne_self _, ⟨_, g2, rfl, 0, by rw [Array.toArray_toList]⟩, ?_⟩, fun b hb => ?_, q⟩⟩
  · by_cases hz : k > acc.size
    · exact .inl ⟨by omega, _, _, g1.trans (by rw [if_pos hz])⟩
    · exact .inr ⟨by omega, .inl ⟨rfl, _, g1.trans (by rw [if_neg hz])⟩⟩
  · have e' : b = h'.objs.size + 1 ∨ b = h'.objs.size := by simpa using hb
    have hle : h'.objs.size ≤ b := by
      rcases e' with z | z
      · rw [z]; exact Nat.le_succ _
      · rw [z]; exact Nat.le_refl _
    exact I1.fpOk hle (I1.hok.fresh hle)
theorem pi_cbRg {tg e : Expr} {te : L2.St → Hp → (Int → Int → Hp → Prop) → Prop} {k j : Nat} {p pos cpos : Pos} (hk : k ≤ 100) (hc : X.calm = true) (hg : Gl X "combinations") (hm : X.mg "combinations" = some (.type "itertools.combinations")) (he : PRg X e te)
    (hs : starEach [e, .Constant (.int k) j cpos] X.env = (false, eval e X.env) :: starEach [.Constant (.int k) j cpos] X.env := by rfl) (hs2 : starEach [.Constant (.int k) j cpos] X.env = (false, eval (.Constant (.int k) j cpos) X.env) :: starEach [] X.env := by rfl)
    (hpl : (backTo pos (starEach [.Constant (.int k) j cpos] X.env)).any (·.1) = false := by rfl) : PI X tg (.Call (.Name "combinations" p) [e, .Constant (.int k) j cpos] [] pos) (iCbRg te k) := by
  refine ⟨fun pins s σ H R I h => ?_⟩
  refine wpAny_Call_Name_kw (ld_glob I hg hm (callWith_type1 (args_cons (thn (he pins s σ H _ I h) fun x s1 ⟨r, a, b, t, u, v, H1, ex, hr, I1, ok, L, hL, q⟩ => args_cons (wpAny_Constant_int (args_nil ?_)) hs2) hs) hs hpl))
  subst ex
  obtain ⟨b1, b2, b3, b4, b5⟩ := ok
  have I2 : Inv X pins σ H1 { s1 with toks := s1.toks + 1 } := I1.tok _
  have hh : X.A.handled = none := I1.ok.hd hc
  refine callType_codes (Q₁ := fun obj s₁ => s₁.TypeIs obj "itertools.combinations" ∧ wpAny (model X.prog X.w) X.A (pyIter obj) (PIE X pins σ tg R) X.xe s₁) called_cb (typeCall_cb _ _) F.entry_object_init
    (new_cb (A := X.A.in1) (Pa := fun acc => ItemsOf (fun i v => ∃ t, v = .int (a + i * 1) t) acc (b - a).toNat) hh hk (fun A' Q E hh' h => collect_range hh' hr (small_one b1 b2 b3 b4) (rangeSize_nat a b) b5 h) (fun acc ha => by rw [ha.1]; exact b5)
      fun h' tk acc kp ha => made_cb I2 hk kp (vals_rg ha) (by rw [rgV_length]; exact hL) q) fun obj s₁ h₁ => ?_
  exact ⟨h₁.1, F.args_object_init_3 obj _ _, object_init_meets called_cb.init.lookup called_cb.made (by decide) X.prog X.w X.A.in1 _ s₁ ⟨h₁.1, rfl, h₁.2⟩⟩
theorem pi_cbL {tg e : Expr} {te : TE} {k j : Nat} {p pos cpos : Pos} (hk : k ≤ 100) (hc : X.calm = true) (hg : Gl X "combinations") (hm : X.mg "combinations" = some (.type "itertools.combinations")) (he : PE X e te)
    (hs : starEach [e, .Constant (.int k) j cpos] X.env = (false, eval e X.env) :: starEach [.Constant (.int k) j cpos] X.env := by rfl) (hs2 : starEach [.Constant (.int k) j cpos] X.env = (false, eval (.Constant (.int k) j cpos) X.env) :: starEach [] X.env := by rfl)
    (hpl : (backTo pos (starEach [.Constant (.int k) j cpos] X.env)).any (·.1) = false := by rfl) : PI X tg (.Call (.Name "combinations" p) [e, .Constant (.int k) j cpos] [] pos) (iCbL X.K te k) := by
  refine ⟨fun pins s σ H R I h => ?_⟩
  refine wpAny_Call_Name_kw (ld_glob I hg hm (callWith_type1 (args_cons (thn (he.run pins s σ H _ I h) fun x s1 ⟨v, H1, I1, rv, a, xs, ex, hq, hlen, L, hL, q⟩ => args_cons (wpAny_Constant_int (args_nil ?_)) hs2) hs) hs hpl))
  subst ex
  cases rv
  obtain ⟨its, rvs, pl, hz⟩ := I1.list hq
  obtain ⟨o, ho, hcl, n, hd⟩ := pl.isList
  have I2 : Inv X pins σ H1 { s1 with toks := s1.toks + 1 } := I1.tok _
  have hh : X.A.handled = none := I1.ok.hd hc
  have hil : its.length = xs.length := rvs.length.symm
  refine callType_codes (Q₁ := fun obj s₁ => s₁.TypeIs obj "itertools.combinations" ∧ wpAny (model X.prog X.w) X.A (pyIter obj) (PIE X pins σ tg R) X.xe s₁) called_cb (typeCall_cb _ _) F.entry_object_init
    (new_cb (A := X.A.in1) (Pa := fun acc => acc = its.toArray) hh hk (fun A' Q E hh' h => wpAny_collect_seq a (.inl rfl) ho hcl hd (fun h' hk' => h h' _ its.toArray hk' rfl) (by rw [List.size_toArray, hil]; exact hz)) (fun acc ha => by rw [ha, List.size_toArray]; omega)
      fun h' tk acc kp ha => made_cb (acc := acc) (vs := xs) I2 hk kp (by rw [ha]; exact rvs) hL q) fun obj s₁ h₁ => ?_
  exact ⟨h₁.1, F.args_object_init_3 obj _ _, object_init_meets called_cb.init.lookup called_cb.made (by decide) X.prog X.w X.A.in1 _ s₁ ⟨h₁.1, rfl, h₁.2⟩⟩
end
/-! ### which places -/
def cmb : Nat → List Nat → List (List Nat)
  | 0, _ => [[]]
  | _ + 1, [] => []
  | k + 1, x :: xs => (cmb k xs).map (x :: ·) ++ cmb (k + 1) xs
def cbB (n k : Nat) : Bool :=
  (!decide (n < k) || (cmb k (List.range n)).isEmpty) && (!decide (k ≤ n) || (cmb k (List.range n))[0]? == some (List.range k)) &&
  ((List.range (cmb k (List.range n)).length).all fun i => nxt n ((cmb k (List.range n)).getD i []) == (cmb k (List.range n))[i + 1]?) && ((cmb k (List.range n)).all fun v => v.length == k)
theorem cbl_of {n k : Nat} (h : cbB n k = true) : CbL n k (cmb k (List.range n)) := by
  unfold cbB at h
  rw [Bool.and_eq_true, Bool.and_eq_true, Bool.and_eq_true] at h
  obtain ⟨⟨⟨h1, h2⟩, h3⟩, h4⟩ := h
  refine ⟨fun z => ?_, fun z => ?_, fun i v e => ?_, fun v hv => ?_⟩
  · rw [decide_eq_true z] at h1
    exact List.isEmpty_iff.mp h1
  · rw [decide_eq_true z] at h2
    exact eq_of_beq h2
  · have hi : i < (cmb k (List.range n)).length := (List.getElem?_eq_some_iff.mp e).1
    have := List.all_eq_true.mp h3 i (List.mem_range.mpr hi)
    rw [List.getD_eq_getElem?_getD, e] at this
    exact eq_of_beq this
  · exact eq_of_beq (List.all_eq_true.mp h4 v hv)
theorem cb_all : ((List.range 13).all fun n => (List.range 4).all fun k => cbB n k) = true := by decide +kernel
theorem cbl {n k : Nat} (hn : n ≤ 12) (hk : k ≤ 3) : CbL n k (cmb k (List.range n)) :=
  cbl_of (List.all_eq_true.mp (List.all_eq_true.mp cb_all n (List.mem_range.mpr (by omega))) k (List.mem_range.mpr (by omega)))
end Cb

/-! ### lists of pairs of whole numbers -/
inductive All2 {α β : Type} (R : α → β → Prop) : List α → List β → Prop
  | nil : All2 R [] []
  | cons {x : α} {y : β} {xs : List α} {ys : List β} : R x y → All2 R xs ys → All2 R (x :: xs) (y :: ys)
theorem All2.length {α β : Type} {R : α → β → Prop} {xs : List α} {ys : List β} (h : All2 R xs ys) : xs.length = ys.length := by
  induction h with
  | nil => rfl
  | cons _ _ ih => rw [List.length_cons, List.length_cons, ih]
theorem All2.mono {α β : Type} {R R' : α → β → Prop} {xs : List α} {ys : List β} (h : All2 R xs ys) (f : ∀ x y, R x y → R' x y) : All2 R' xs ys := by
  induction h with
  | nil => exact .nil
  | cons a _ ih => exact .cons (f _ _ a) ih
theorem All2.app {α β : Type} {R : α → β → Prop} {xs xs' : List α} {ys ys' : List β} (h : All2 R xs ys) (h' : All2 R xs' ys') : All2 R (xs ++ xs') (ys ++ ys') := by
  induction h with
  | nil => exact h'
  | cons a _ ih => exact .cons a ih
theorem All2.at {α β : Type} {R : α → β → Prop} {xs : List α} {ys : List β} (h : All2 R xs ys) : ∀ {i : Nat} {x : α}, xs[i]? = some x → ∃ y, ys[i]? = some y ∧ R x y := by
  induction h with
  | nil => intro i x e; cases e
  | cons a _ ih =>
    intro i x e
    cases i with
    | zero => obtain rfl := Option.some.inj e; exact ⟨_, rfl, a⟩
    | succ i => exact ih e
theorem All2.at' {α β : Type} {R : α → β → Prop} {xs : List α} {ys : List β} (h : All2 R xs ys) : ∀ {i : Nat} {y : β}, ys[i]? = some y → ∃ x, xs[i]? = some x ∧ R x y := by
  induction h with
  | nil => intro i x e; cases e
  | cons a _ ih =>
    intro i x e
    cases i with
    | zero => obtain rfl := Option.some.inj e; exact ⟨_, rfl, a⟩
    | succ i => exact ih e
theorem All2.take {α β : Type} {R : α → β → Prop} {xs : List α} {ys : List β} (h : All2 R xs ys) : ∀ i, All2 R (xs.take i) (ys.take i) := by
  induction h with
  | nil => intro i; rw [List.take_nil, List.take_nil]; exact .nil
  | cons a _ ih =>
    intro i
    cases i with
    | zero => exact .nil
    | succ i => exact .cons a (ih i)
theorem All2.drop {α β : Type} {R : α → β → Prop} {xs : List α} {ys : List β} (h : All2 R xs ys) : ∀ i, All2 R (xs.drop i) (ys.drop i) := by
  induction h with
  | nil => intro i; rw [List.drop_nil, List.drop_nil]; exact .nil
  | cons a t ih =>
    intro i
    cases i with
    | zero => exact .cons a t
    | succ i => exact ih i
theorem All2.one {α β : Type} {R : α → β → Prop} {x : α} {y : β} (h : R x y) : All2 R [x] [y] := .cons h .nil
def PrAt (K : PySem.W.Frag) (H : Hp) (x : V) (p : Int × Int) : Prop := ∃ t, x = V.ref t ∧ H t = some (.tup [.int p.1, .int p.2])
abbrev PrL (K : PySem.W.Frag) (H : Hp) (xs : List V) (l : List (Int × Int)) : Prop := All2 (PrAt K H) xs l
theorem PrAt.mono {H H' : Hp} {x : V} {p : Int × Int} (s : Same H H') (h : PrAt K H x p) : PrAt K H' x p := by
  obtain ⟨t, e, ht⟩ := h
  exact ⟨t, e, s _ _ ht⟩
theorem PrL.mono {H H' : Hp} {xs : List V} {l : List (Int × Int)} (s : Same H H') (h : PrL K H xs l) : PrL K H' xs l := All2.mono h fun _ _ q => q.mono s
/-- all tuples of H stand in H' -/
def TupS (H H' : Hp) : Prop := ∀ t xs, H t = some (.tup xs) → H' t = some (.tup xs)
theorem TupS.of {H H' : Hp} (s : Same H H') : TupS H H' := fun t xs e => s _ _ e
theorem TupS.trans {H H' H2 : Hp} (s : TupS H H') (s' : TupS H' H2) : TupS H H2 := fun t xs e => s' _ _ (s _ _ e)
theorem TupS.put {H : Hp} {p : Addr} {xs : List V} {o : HO} (h : H p = some (.lst xs)) : TupS H (upd H p o) := fun t ys e => by
  rw [upd_ne (ne_of e h (fun z => nomatch z))]
  exact e
theorem PrL.tups {H H' : Hp} {xs : List V} {l : List (Int × Int)} (s : TupS H H') (h : PrL K H xs l) : PrL K H' xs l := All2.mono h fun _ _ ⟨t, e, ht⟩ => ⟨t, e, s _ _ ht⟩
theorem PrAt.sq {H : Hp} {x : V} {p : Int × Int} (h : PrAt K H x p) : ∃ t, x = V.ref t ∧ SqT K H t [.int p.1, .int p.2] := by
  obtain ⟨t, e, ht⟩ := h
  exact ⟨t, e, .inl (.inl ht)⟩
/-! pairs in order -/
def le2 (p q : Int × Int) : Prop := p.1 < q.1 ∨ (p.1 = q.1 ∧ p.2 ≤ q.2)
instance (p q : Int × Int) : Decidable (le2 p q) := by unfold le2; exact inferInstance
theorem le2_anti {p q : Int × Int} (h : le2 p q) (h' : le2 q p) : p = q := by
  unfold le2 at h h'
  exact Prod.ext (by omega) (by omega)
theorem le2_total (p q : Int × Int) : le2 p q ∨ le2 q p := by unfold le2; omega
theorem le2_trans {p q r : Int × Int} (h : le2 p q) (h' : le2 q r) : le2 p r := by unfold le2 at *; omega
def sort2 (l : List (Int × Int)) : List (Int × Int) := l.mergeSort fun p q => decide (le2 p q)
theorem sort2_perm (l : List (Int × Int)) : (sort2 l).Perm l := List.mergeSort_perm _ _
theorem sort2_sorted (l : List (Int × Int)) : (sort2 l).Pairwise le2 := by
  have := List.pairwise_mergeSort (le := fun p q => decide (le2 p q)) (fun a b c h1 h2 => decide_eq_true (le2_trans (of_decide_eq_true h1) (of_decide_eq_true h2)))
    (fun a b => by rcases le2_total a b with h | h <;> simp [h]) l
  exact this.imp fun h => of_decide_eq_true h
theorem sort2_uniq {l m : List (Int × Int)} (h1 : m.Perm l) (h2 : m.Pairwise le2) : m = sort2 l :=
  List.Perm.eq_of_pairwise (le := le2) (fun _ _ _ _ => le2_anti) h2 (sort2_sorted l) (h1.trans (sort2_perm l).symm)
theorem sort2_self {l : List (Int × Int)} (h : l.Pairwise le2) : sort2 l = l := (sort2_uniq (List.Perm.refl _) h).symm
theorem sort2_mem {l : List (Int × Int)} {p : Int × Int} : p ∈ sort2 l ↔ p ∈ l := (sort2_perm l).mem_iff
theorem sort2_len (l : List (Int × Int)) : (sort2 l).length = l.length := (sort2_perm l).length_eq
theorem sort2_eq {l m : List (Int × Int)} (h : l.Perm m) : sort2 l = sort2 m := sort2_uniq ((sort2_perm l).trans h) (sort2_sorted l)
theorem sort2_nodup {l : List (Int × Int)} (h : l.Nodup) : (sort2 l).Nodup := (sort2_perm l).nodup_iff.mpr h
/-! sorted -/
def kOf (H : Hp) : V → Int × Int
  | .ref t => match H t with
    | some (.tup [.int i, .int j]) => (i, j)
    | _ => (0, 0)
  | _ => (0, 0)
theorem PrAt.k {H : Hp} {x : V} {p : Int × Int} (h : PrAt K H x p) : kOf H x = p := by
  obtain ⟨t, rfl, ht⟩ := h
  show (match H t with | some (.tup [.int i, .int j]) => (i, j) | _ => (0, 0)) = p
  rw [ht]
theorem PrL.k {H : Hp} {xs : List V} {l : List (Int × Int)} (h : PrL K H xs l) : xs.map (kOf H) = l := by
  induction h with
  | nil => rfl
  | cons a _ ih => rw [List.map_cons, a.k, ih]
theorem PrL.mem {H : Hp} {xs : List V} {l : List (Int × Int)} (h : PrL K H xs l) : ∀ x ∈ xs, PrAt K H x (kOf H x) := by
  induction h with
  | nil => intro x hx; cases hx
  | cons a _ ih =>
    intro x hx
    rcases List.mem_cons.mp hx with e | hx
    · subst e; rw [a.k]; exact a
    · exact ih x hx
theorem PrL.of_k {H : Hp} : ∀ {ys : List V}, (∀ x ∈ ys, PrAt K H x (kOf H x)) → PrL K H ys (ys.map (kOf H))
  | [], _ => .nil
  | y :: ys, h => .cons (h y (List.mem_cons_self ..)) (PrL.of_k fun x hx => h x (List.mem_cons_of_mem _ hx))
def rSort2 (K : PySem.W.Frag) : List V → Hp → VK → Prop := fun vs H Q => ∃ (a : Addr) (xs : List V) (l : List (Int × Int)), vs = [V.ref a] ∧ SqL K H a xs ∧ PrL K H xs l ∧
  ∀ ys p, PrL K H ys (sort2 l) → H p = none → Q (.ref p) (upd H p (.lst ys))
theorem cr_sort2 {X : Cx} : CallR X (.builtin "sorted") (rSort2 X.K) := by
  intro pins s σ H vs us Q I r h
  obtain ⟨a, xs, l, rfl, hs, hP, q⟩ := h
  refine cr_sortedPO pins s σ H _ us Q I r ⟨a, xs, kOf H, rfl, hs, fun x hx => hP.mem x hx, fun ys p h1 h2 hp => q ys p ?_ hp⟩
  have hm := PrL.of_k (K := X.K) (H := H) (ys := ys) fun x hx => hP.mem x (h2.perm.mem_iff.mp hx)
  have e : ys.map (kOf H) = sort2 l := by
    refine sort2_uniq ?_ ?_
    · rw [← hP.k]; exact h2.perm.map _
    · rw [List.pairwise_map]
      refine List.Pairwise.imp (fun {x y} h => ?_) h1
      have := SrtO.lexB_no.mp h
      unfold le2
      omega
  rw [e] at hm
  exact hm
/-! in, ==, != -/
def dat2 (p : Int × Int) : PyData := .tuple [.int p.1, .int p.2]
theorem dat2_eqv (p q : Int × Int) : PyData.eqv (dat2 p) (dat2 q) = decide (p = q) := by
  obtain ⟨a, b⟩ := p
  obtain ⟨c, d⟩ := q
  show PyData.eqvAll [.int a, .int b] [.int c, .int d] = _
  simp only [PyData.eqvAll, PyData.eqv, Bool.and_true]
  by_cases h1 : a = c <;> by_cases h2 : b = d <;> simp [h1, h2]
theorem dat2s_eqv : ∀ l m : List (Int × Int), PyData.eqvAll (l.map dat2) (m.map dat2) = decide (l = m)
  | [], [] => by simp [PyData.eqvAll]
  | [], _ :: _ => by simp [PyData.eqvAll]
  | _ :: _, [] => by simp [PyData.eqvAll]
  | p :: l, q :: m => by
    rw [List.map_cons, List.map_cons, PySem.W.eqv_all_cons, dat2_eqv, dat2s_eqv l m]
    by_cases e : p = q
    · subst e; simp
    · simp [e]
theorem PrAt.dp {H : Hp} {x : V} {p : Int × Int} (h : PrAt K H x p) : Dp K H x (dat2 p) := by
  obtain ⟨t, rfl, ht⟩ := h
  exact .tup (.inl (.inl ht)) (.cons (.int _) (.cons (.int _) .nil))
theorem PrL.dp {H : Hp} {xs : List V} {l : List (Int × Int)} (h : PrL K H xs l) : DpAll K H xs (l.map dat2) := by
  induction h with
  | nil => exact .nil
  | cons a _ ih => exact .cons a.dp ih
theorem dat2_sh (p : Int × Int) : SeqAt.shaped (dat2 p) = true := rfl
theorem dat2_sh2 (l : List (Int × Int)) (h : l.length ≤ 200) : SeqAt.shaped (.list (l.map dat2)) = true := by
  have key : ∀ l : List (Int × Int), PyData.canLayAll0 (l.map dat2) = true ∧ PyData.depthAll (l.map dat2) ≤ 1 := by
    intro l
    induction l with
    | nil => exact ⟨rfl, by decide⟩
    | cons p l ih =>
      refine ⟨?_, ?_⟩
      · show (PyData.canLay0 (dat2 p) && PyData.canLayAll0 (l.map dat2)) = true
        rw [ih.1]; rfl
      · show max (PyData.depth (dat2 p)) (PyData.depthAll (l.map dat2)) ≤ 1
        have : PyData.depth (dat2 p) = 1 := rfl
        have := ih.2
        omega
  unfold SeqAt.shaped
  have h1 : PyData.canLay0 (.list (l.map dat2)) = true := by
    exact (key l).1
  have h2 : PyData.depth (.list (l.map dat2)) ≤ 64 := by
    have := (key l).2
    simp only [PyData.depth]
    omega
  rw [h1, decide_eq_true h2]
  rfl
theorem any_eqv (l : List (Int × Int)) (p : Int × Int) : ((l.map dat2).any fun z => PyData.eqv z (dat2 p)) = decide (p ∈ l) := by
  induction l with
  | nil => simp
  | cons q l ih =>
    rw [List.map_cons, List.any_cons, ih, dat2_eqv]
    by_cases e : q = p
    · subst e; simp
    · simp [e, Ne.symm e]
def rIn2 (K : PySem.W.Frag) (neg : Bool) : R2 := fun x y H Q => ∃ (p : Int × Int) (a : Addr) (xs : List V) (l : List (Int × Int)), PrAt K H x p ∧ y = .ref a ∧ SqL K H a xs ∧ PrL K H xs l ∧ l.length ≤ 200 ∧ Q (.bl (if neg then !decide (p ∈ l) else decide (p ∈ l))) H
section
variable {X : Cx}
theorem op_in2 (hu : X.A.units + 65 < cLine) : OpR X (compareOp .In) (rIn2 X.K false) := by
  intro pins s σ H x y v u Q I rx ry h
  obtain ⟨p, a, xs, l, hp, rfl, hs, hP, hl, q⟩ := h
  refine op_inD hu pins s σ H _ _ v u Q I rx ry ⟨_, _, hp.dp, .lst hs hP.dp, dat2_sh p, dat2_sh2 l hl, ?_⟩
  rw [any_eqv]
  exact q
theorem op_notIn2 (hu : X.A.units + 65 < cLine) : OpR X (compareOp .NotIn) (rIn2 X.K true) := by
  intro pins s σ H x y v u Q I rx ry h
  obtain ⟨p, a, xs, l, hp, rfl, hs, hP, hl, q⟩ := h
  refine op_notInD hu pins s σ H _ _ v u Q I rx ry ⟨_, _, hp.dp, .lst hs hP.dp, dat2_sh p, dat2_sh2 l hl, ?_⟩
  rw [any_eqv]
  exact q
def rEqL2 (K : PySem.W.Frag) (neg : Bool) : R2 := fun x y H Q => ∃ (a b : Addr) (xs ys : List V) (l m : List (Int × Int)), x = .ref a ∧ y = .ref b ∧ SqL K H a xs ∧ PrL K H xs l ∧ SqL K H b ys ∧ PrL K H ys m ∧ l.length ≤ 200 ∧ m.length ≤ 200 ∧ Q (.bl (if neg then !decide (l = m) else decide (l = m))) H
theorem op_eqL2 (hu : X.A.units + 64 < cLine) : OpR X (compareOp .Eq) (rEqL2 X.K false) := by
  intro pins s σ H x y v u Q I rx ry h
  obtain ⟨a, b, xs, ys, l, m, rfl, rfl, hs, hP, hs', hP', hl, hm, q⟩ := h
  refine op_eqD hu pins s σ H _ _ v u Q I rx ry ⟨_, _, .lst hs hP.dp, .lst hs' hP'.dp, dat2_sh2 l hl, dat2_sh2 m hm, ?_⟩
  show Q (.bl (PyData.eqvAll _ _)) H
  rw [dat2s_eqv]
  exact q
theorem op_neL2 (hu : X.A.units + 64 < cLine) : OpR X (compareOp .NotEq) (rEqL2 X.K true) := by
  intro pins s σ H x y v u Q I rx ry h
  obtain ⟨a, b, xs, ys, l, m, rfl, rfl, hs, hP, hs', hP', hl, hm, q⟩ := h
  refine op_neD hu pins s σ H _ _ v u Q I rx ry ⟨_, _, .lst hs hP.dp, .lst hs' hP'.dp, dat2_sh2 l hl, dat2_sh2 m hm, ?_⟩
  show Q (.bl (!PyData.eqvAll _ _)) H
  rw [dat2s_eqv]
  exact q
def rEqP2 (K : PySem.W.Frag) (neg : Bool) : R2 := fun x y H Q => ∃ (p q : Int × Int), PrAt K H x p ∧ PrAt K H y q ∧ Q (.bl (if neg then !decide (p = q) else decide (p = q))) H
theorem op_eqP2 (hu : X.A.units + 64 < cLine) : OpR X (compareOp .Eq) (rEqP2 X.K false) := by
  intro pins s σ H x y v u Q I rx ry h
  obtain ⟨p, q, hp, hq, k⟩ := h
  refine op_eqD hu pins s σ H _ _ v u Q I rx ry ⟨_, _, hp.dp, hq.dp, dat2_sh p, dat2_sh q, ?_⟩
  rw [dat2_eqv]
  exact k
theorem op_neP2 (hu : X.A.units + 64 < cLine) : OpR X (compareOp .NotEq) (rEqP2 X.K true) := by
  intro pins s σ H x y v u Q I rx ry h
  obtain ⟨p, q, hp, hq, k⟩ := h
  refine op_neD hu pins s σ H _ _ v u Q I rx ry ⟨_, _, hp.dp, hq.dp, dat2_sh p, dat2_sh q, ?_⟩
  rw [dat2_eqv]
  exact k
end
theorem Room.units2 {k : Nat} {A : Around} (r : Room k A) : A.units + 65 < cLine := by have := r.un; omega

/-! ### min, max of a tuple of two whole numbers -/
section
variable {X : Cx}
def rMin2T (K : PySem.W.Frag) (f : Int → Int → Int) : List V → Hp → VK → Prop := fun vs H Q => ∃ (a : Addr) (i j : Int), vs = [V.ref a] ∧ SqT K H a [.int i, .int j] ∧ Q (.int (f i j)) H
theorem tup_of {h : Heap} {a : Addr} {its : Array Value} (t : IsTup h a its) : h.IsTuple a its := t
theorem reads_int {h : Heap} {v : Value} {n : Int} {bs : List Addr} (r : Reads h v (.int n) bs) : ∃ t, v = .int n t := by
  cases r with
  | int => exact ⟨_, rfl⟩
theorem alike2 (i j : Int) : PySem.W.AlikeAll [.int i, .int j] := by
  refine ⟨fun x hx y hy => ?_, fun x hx => ?_⟩
  · simp only [List.mem_cons, List.not_mem_nil, or_false] at hx hy
    rcases hx with rfl | rfl <;> rcases hy with rfl | rfl <;> rfl
  · simp only [List.mem_cons, List.not_mem_nil, or_false] at hx
    rcases hx with rfl | rfl <;> exact fun z => nomatch z
theorem cr_min2T (hc : X.calm = true) (hu : X.A.units + 64 < cLine) : CallR X (.builtin "min") (rMin2T X.K min) := by
  intro pins s σ H vs us Q I r h
  obtain ⟨a, i, j, rfl, hs, q⟩ := h
  obtain ⟨its, rv, hl, _⟩ := I.tuple hs
  rw [Vals.ref1 r]
  obtain ⟨u1, u2, rfl, ⟨t1, e1⟩, ⟨t2, e2⟩⟩ := vals2 rv
  subst e1; subst e2
  refine PySem.W.min_tuple_data (x := .int i) (xs := [.int j]) (I.ok.hd hc) (tup_of hl) (.cons (Reads.int i t1) (.cons (Reads.int j t2) .nil)) (alike2 i j) ?_ fun k v h' tk bs hk hr hh => ?_
  · show X.A.units + 1 + 0 < cLine
    omega
  · have hm : PySem.W.minD (.int i) [.int j] = .int (min i j) := PySem.W.minD_ints i [j]
    rw [hm] at hr
    obtain ⟨t, rfl⟩ := reads_int hr
    exact ⟨.int _, H, I.kept hh, ⟨_, rfl⟩, q⟩
theorem cr_max2T (hc : X.calm = true) (hu : X.A.units + 64 < cLine) : CallR X (.builtin "max") (rMin2T X.K max) := by
  intro pins s σ H vs us Q I r h
  obtain ⟨a, i, j, rfl, hs, q⟩ := h
  obtain ⟨its, rv, hl, _⟩ := I.tuple hs
  rw [Vals.ref1 r]
  obtain ⟨u1, u2, rfl, ⟨t1, e1⟩, ⟨t2, e2⟩⟩ := vals2 rv
  subst e1; subst e2
  refine PySem.W.max_tuple_data (x := .int i) (xs := [.int j]) (I.ok.hd hc) (tup_of hl) (.cons (Reads.int i t1) (.cons (Reads.int j t2) .nil)) (alike2 i j) ?_ fun k v h' tk bs hk hr hh => ?_
  · show X.A.units + 1 + 0 < cLine
    omega
  · have hm : PySem.W.maxD (.int i) [.int j] = .int (max i j) := PySem.W.maxD_ints i [j]
    rw [hm] at hr
    obtain ⟨t, rfl⟩ := reads_int hr
    exact ⟨.int _, H, I.kept hh, ⟨_, rfl⟩, q⟩
end

/-! ### posts parted into plots: the mathematics -/
inductive Tr where
  | lf : Tr
  | nd (m : Int) (l r : Tr) : Tr
def TOk (S : Int → Prop) : Int → Int → Tr → Prop
  | lo, hi, .lf => lo < hi ∧ ∀ z, S z → ¬ (lo < z ∧ z < hi)
  | lo, hi, .nd m l r => S m ∧ TOk S lo m l ∧ TOk S m hi r
def tie : Int → Int → Tr → Int → Int → Prop
  | lo, hi, .lf, a, b => a = lo ∧ b = hi
  | lo, hi, .nd m l r, a, b => (a = lo ∧ b = hi) ∨ tie lo m l a b ∨ tie m hi r a b
def graft (v : Int) : Int → Int → Tr → Tr
  | lo, hi, .lf => if lo < v ∧ v < hi then .nd v .lf .lf else .lf
  | lo, hi, .nd m l r => .nd m (graft v lo m l) (graft v m hi r)
theorem TOk.lt {S : Int → Prop} : ∀ {T : Tr} {lo hi : Int}, TOk S lo hi T → lo < hi
  | .lf, _, _, h => h.1
  | .nd m l r, _, _, ⟨_, h1, h2⟩ => Int.lt_trans h1.lt h2.lt
theorem tie_root : ∀ {T : Tr} {lo hi : Int}, tie lo hi T lo hi
  | .lf, _, _ => ⟨rfl, rfl⟩
  | .nd _ _ _, _, _ => .inl ⟨rfl, rfl⟩
theorem tie_in {S : Int → Prop} : ∀ {T : Tr} {lo hi a b : Int}, TOk S lo hi T → tie lo hi T a b → lo ≤ a ∧ a < b ∧ b ≤ hi
  | .lf, lo, hi, a, b, h, ⟨e1, e2⟩ => by subst e1; subst e2; exact ⟨Int.le_refl _, h.1, Int.le_refl _⟩
  | .nd m l r, lo, hi, a, b, ⟨_, h1, h2⟩, t => by
    have q1 := h1.lt
    have q2 := h2.lt
    rcases t with ⟨e1, e2⟩ | t | t
    · subst e1; subst e2; exact ⟨Int.le_refl _, Int.lt_trans q1 q2, Int.le_refl _⟩
    · have := tie_in h1 t; omega
    · have := tie_in h2 t; omega
theorem tie_S {S : Int → Prop} : ∀ {T : Tr} {lo hi a b : Int}, TOk S lo hi T → S lo → S hi → tie lo hi T a b → S a ∧ S b
  | .lf, lo, hi, a, b, h, s1, s2, ⟨e1, e2⟩ => by subst e1; subst e2; exact ⟨s1, s2⟩
  | .nd m l r, lo, hi, a, b, ⟨sm, h1, h2⟩, s1, s2, t => by
    rcases t with ⟨e1, e2⟩ | t | t
    · subst e1; subst e2; exact ⟨s1, s2⟩
    · exact tie_S h1 s1 sm t
    · exact tie_S h2 sm s2 t
theorem tie_adj {S : Int → Prop} : ∀ {T : Tr} {lo hi a b : Int}, TOk S lo hi T → S lo → S hi → S a → S b → a < b → (∀ z, S z → ¬ (a < z ∧ z < b)) → lo ≤ a → b ≤ hi → tie lo hi T a b
  | .lf, lo, hi, a, b, h, s1, s2, sa, sb, hab, hz, h1, h2 => by
    have := h.2 a sa
    have := h.2 b sb
    exact ⟨by omega, by omega⟩
  | .nd m l r, lo, hi, a, b, ⟨sm, h1, h2⟩, s1, s2, sa, sb, hab, hz, g1, g2 => by
    have := hz m sm
    by_cases hm : b ≤ m
    · exact .inr (.inl (tie_adj h1 s1 sm sa sb hab hz g1 hm))
    · exact .inr (.inr (tie_adj h2 sm s2 sa sb hab hz (by omega) g2))
theorem nocross {S : Int → Prop} : ∀ {T : Tr} {lo hi a b c d : Int}, TOk S lo hi T → tie lo hi T a b → tie lo hi T c d → a < c → c < b → b < d → False
  | .lf, lo, hi, a, b, c, d, h, ⟨e1, e2⟩, ⟨e3, e4⟩, h1, h2, h3 => by omega
  | .nd m l r, lo, hi, a, b, c, d, ⟨sm, k1, k2⟩, t, u, h1, h2, h3 => by
    have q1 := k1.lt
    have q2 := k2.lt
    rcases t with ⟨e1, e2⟩ | t | t <;> rcases u with ⟨e3, e4⟩ | u | u
    · omega
    · have := tie_in k1 u; omega
    · have := tie_in k2 u; omega
    · have := tie_in k1 t; omega
    · exact nocross k1 t u h1 h2 h3
    · have := tie_in k1 t; have := tie_in k2 u; omega
    · have := tie_in k2 t; omega
    · have := tie_in k2 t; have := tie_in k1 u; omega
    · exact nocross k2 t u h1 h2 h3
theorem inner {S : Int → Prop} : ∀ {T : Tr} {lo hi a b : Int}, TOk S lo hi T → tie lo hi T a b → (∀ z, S z → ¬ (a < z ∧ z < b)) ∨ ∃ m, a < m ∧ m < b ∧ tie lo hi T a m ∧ tie lo hi T m b
  | .lf, lo, hi, a, b, h, ⟨e1, e2⟩ => by subst e1; subst e2; exact .inl h.2
  | .nd m l r, lo, hi, a, b, ⟨sm, k1, k2⟩, t => by
    rcases t with ⟨e1, e2⟩ | t | t
    · subst e1; subst e2; exact .inr ⟨m, k1.lt, k2.lt, .inr (.inl tie_root), .inr (.inr tie_root)⟩
    · rcases inner k1 t with q | ⟨x, q1, q2, q3, q4⟩
      · exact .inl q
      · exact .inr ⟨x, q1, q2, .inr (.inl q3), .inr (.inl q4)⟩
    · rcases inner k2 t with q | ⟨x, q1, q2, q3, q4⟩
      · exact .inl q
      · exact .inr ⟨x, q1, q2, .inr (.inr q3), .inr (.inr q4)⟩
theorem outer {S : Int → Prop} : ∀ {T : Tr} {lo hi a b : Int}, TOk S lo hi T → tie lo hi T a b → ¬ (a = lo ∧ b = hi) → ∃ p, (p < a ∧ tie lo hi T p a ∧ tie lo hi T p b) ∨ (b < p ∧ tie lo hi T a p ∧ tie lo hi T b p)
  | .lf, lo, hi, a, b, h, t, n => absurd t n
  | .nd m l r, lo, hi, a, b, ⟨sm, k1, k2⟩, t, n => by
    rcases t with t | t | t
    · exact absurd t n
    · by_cases e : a = lo ∧ b = m
      · obtain ⟨e1, e2⟩ := e; subst e1; subst e2
        exact ⟨hi, .inr ⟨k2.lt, .inl ⟨rfl, rfl⟩, .inr (.inr tie_root)⟩⟩
      · obtain ⟨p, q | q⟩ := outer k1 t e
        · exact ⟨p, .inl ⟨q.1, .inr (.inl q.2.1), .inr (.inl q.2.2)⟩⟩
        · exact ⟨p, .inr ⟨q.1, .inr (.inl q.2.1), .inr (.inl q.2.2)⟩⟩
    · by_cases e : a = m ∧ b = hi
      · obtain ⟨e1, e2⟩ := e; subst e1; subst e2
        exact ⟨lo, .inl ⟨k1.lt, .inr (.inl tie_root), .inl ⟨rfl, rfl⟩⟩⟩
      · obtain ⟨p, q | q⟩ := outer k2 t e
        · exact ⟨p, .inl ⟨q.1, .inr (.inr q.2.1), .inr (.inr q.2.2)⟩⟩
        · exact ⟨p, .inr ⟨q.1, .inr (.inr q.2.1), .inr (.inr q.2.2)⟩⟩
theorem TOk.more {S S' : Int → Prop} : ∀ {T : Tr} {lo hi : Int}, TOk S lo hi T → (∀ z, S z → S' z) → (∀ z, S' z → lo < z → z < hi → S z) → TOk S' lo hi T
  | .lf, lo, hi, h, s1, s2 => ⟨h.1, fun z hz hh => h.2 z (s2 z hz hh.1 hh.2) hh⟩
  | .nd m l r, lo, hi, ⟨sm, k1, k2⟩, s1, s2 => ⟨s1 m sm, k1.more s1 fun z hz h1 h2 => s2 z hz h1 (Int.lt_trans h2 k2.lt), k2.more s1 fun z hz h1 h2 => s2 z hz (Int.lt_trans k1.lt h1) h2⟩
theorem graft_ok {S S' : Int → Prop} {v : Int} : ∀ {T : Tr} {lo hi : Int}, TOk S lo hi T → (∀ z, S' z ↔ S z ∨ z = v) → TOk S' lo hi (graft v lo hi T)
  | .lf, lo, hi, h, s => by
    unfold graft
    by_cases e : lo < v ∧ v < hi
    · rw [if_pos e]
      refine ⟨(s v).mpr (.inr rfl), ⟨e.1, fun z hz hh => ?_⟩, e.2, fun z hz hh => ?_⟩
      · rcases (s z).mp hz with hz | hz
        · exact h.2 z hz ⟨hh.1, by omega⟩
        · omega
      · rcases (s z).mp hz with hz | hz
        · exact h.2 z hz ⟨by omega, hh.2⟩
        · omega
    · rw [if_neg e]
      refine ⟨h.1, fun z hz hh => ?_⟩
      rcases (s z).mp hz with hz | hz
      · exact h.2 z hz hh
      · exact e (hz ▸ hh)
  | .nd m l r, lo, hi, ⟨sm, k1, k2⟩, s => ⟨(s m).mpr (.inl sm), graft_ok k1 s, graft_ok k2 s⟩
theorem graft_same {S : Int → Prop} {v : Int} : ∀ {T : Tr} {lo hi : Int}, TOk S lo hi T → ¬ (lo < v ∧ v < hi) → graft v lo hi T = T
  | .lf, lo, hi, h, n => by unfold graft; rw [if_neg n]
  | .nd m l r, lo, hi, ⟨sm, k1, k2⟩, n => by
    have q1 := k1.lt
    have q2 := k2.lt
    unfold graft
    rw [graft_same k1 (by omega), graft_same k2 (by omega)]
theorem graft_tie {S : Int → Prop} {v p q : Int} (nv : ¬ S v) (sp : S p) (sq : S q) (hp : p < v) (hq : v < q) (hz : ∀ z, S z → ¬ (p < z ∧ z < q)) :
    ∀ {T : Tr} {lo hi : Int}, TOk S lo hi T → S lo → S hi → lo < v → v < hi → ∀ a b, tie lo hi (graft v lo hi T) a b ↔ tie lo hi T a b ∨ (a = p ∧ b = v) ∨ (a = v ∧ b = q)
  | .lf, lo, hi, h, s1, s2, g1, g2, a, b => by
    unfold graft
    rw [if_pos ⟨g1, g2⟩]
    have := h.2 p sp
    have := h.2 q sq
    have := hz lo s1
    have := hz hi s2
    have e1 : p = lo := by omega
    have e2 : q = hi := by omega
    subst e1; subst e2
    exact Iff.rfl
  | .nd m l r, lo, hi, ⟨sm, k1, k2⟩, s1, s2, g1, g2, a, b => by
    have hm : m ≠ v := fun e => nv (e ▸ sm)
    unfold graft
    show (_ ∨ tie lo m (graft v lo m l) a b ∨ tie m hi (graft v m hi r) a b) ↔ (_ ∨ _ ∨ _) ∨ _
    by_cases h : v < m
    · rw [graft_same k2 (by omega), graft_tie nv sp sq hp hq hz k1 s1 sm g1 h a b]
      constructor
      · rintro (h | (h | h) | h)
        · exact .inl (.inl h)
        · exact .inl (.inr (.inl h))
        · exact .inr h
        · exact .inl (.inr (.inr h))
      · rintro ((h | h | h) | h)
        · exact .inl h
        · exact .inr (.inl (.inl h))
        · exact .inr (.inr h)
        · exact .inr (.inl (.inr h))
    · rw [graft_same k1 (by omega), graft_tie nv sp sq hp hq hz k2 sm s2 (by omega) g2 a b]
      constructor
      · rintro (h | h | h | h)
        · exact .inl (.inl h)
        · exact .inl (.inr (.inl h))
        · exact .inl (.inr (.inr h))
        · exact .inr h
      · rintro ((h | h | h) | h)
        · exact .inl h
        · exact .inr (.inl h)
        · exact .inr (.inr (.inl h))
        · exact .inr (.inr (.inr h))
/-- neighbours among S, or the first and the last -/
def side (S : Int → Prop) (lo hi a b : Int) : Prop := (∀ z, S z → ¬ (a < z ∧ z < b)) ∨ (a = lo ∧ b = hi)
structure Cut (S : Int → Prop) (lo hi : Int) (R : List (Int × Int)) : Prop where
  slo : S lo
  shi : S hi
  bd : ∀ z, S z → lo ≤ z ∧ z ≤ hi
  nd : R.Nodup
  ex : ∃ T, TOk S lo hi T ∧ ∀ a b, (a, b) ∈ R ↔ tie lo hi T a b ∧ ¬ side S lo hi a b
theorem ear_mid {S S' : Int → Prop} {lo hi v p q : Int} {R : List (Int × Int)} (h : Cut S lo hi R) (s : ∀ z, S' z ↔ S z ∨ z = v) (nv : ¬ S v) (sp : S p) (sq : S q) (hp : p < v) (hq : v < q) (hz : ∀ z, S z → ¬ (p < z ∧ z < q)) (hr : ¬ (p = lo ∧ q = hi)) :
    Cut S' lo hi ((p, q) :: R) := by
  obtain ⟨T, hT, hR⟩ := h.ex
  have b1 := h.bd p sp
  have b2 := h.bd q sq
  have hpq := tie_adj hT h.slo h.shi sp sq (Int.lt_trans hp hq) hz b1.1 b2.2
  refine ⟨(s lo).mpr (.inl h.slo), (s hi).mpr (.inl h.shi), fun z hz => ?_, List.nodup_cons.mpr ⟨fun hm => ?_, h.nd⟩, graft v lo hi T, graft_ok hT s, fun a b => ?_⟩
  · rcases (s z).mp hz with hz | hz
    · exact h.bd z hz
    · omega
  · exact ((hR p q).mp hm).2 (.inl hz)
  · rw [graft_tie nv sp sq hp hq hz hT h.slo h.shi (by omega) (by omega) a b, List.mem_cons, hR a b]
    constructor
    · rintro (e | ⟨t, n⟩)
      · obtain ⟨rfl, rfl⟩ := Prod.mk.inj e
        refine ⟨.inl hpq, ?_⟩
        rintro (w | w)
        · exact w v ((s v).mpr (.inr rfl)) ⟨hp, hq⟩
        · exact hr w
      · refine ⟨.inl t, ?_⟩
        rintro (w | w)
        · exact n (.inl fun z hz => w z ((s z).mpr (.inl hz)))
        · exact n (.inr w)
    · rintro ⟨t | ⟨e1, e2⟩ | ⟨e1, e2⟩, n⟩
      · by_cases e : (a, b) = (p, q)
        · exact .inl e
        · refine .inr ⟨t, ?_⟩
          rintro (w | w)
          · apply n
            left
            intro z hz' hh
            rcases (s z).mp hz' with hz' | hz'
            · exact w z hz' hh
            · subst hz'
              have u := tie_S hT h.slo h.shi t
              have w1 := w p sp
              have w2 := w q sq
              have w3 := hz a u.1
              have w4 := hz b u.2
              have e1 : a = p := by omega
              have e2 : b = q := by omega
              exact e (by rw [e1, e2])
          · exact n (.inr w)
      · subst e1; subst e2
        exact absurd (.inl fun z hz' hh => by
          rcases (s z).mp hz' with hz' | hz'
          · exact hz z hz' ⟨hh.1, by omega⟩
          · omega) n
      · subst e1; subst e2
        exact absurd (.inl fun z hz' hh => by
          rcases (s z).mp hz' with hz' | hz'
          · exact hz z hz' ⟨by omega, hh.2⟩
          · omega) n
theorem ear_first {S S' : Int → Prop} {lo hi v x : Int} {R : List (Int × Int)} (h : Cut S lo hi R) (s : ∀ z, S' z ↔ S z ∨ z = v) (hv : v < lo) (sx : S x) (hx : lo < x ∧ x < hi) : Cut S' v hi ((lo, hi) :: R) := by
  obtain ⟨T, hT, hR⟩ := h.ex
  have hlt := hT.lt
  refine ⟨(s v).mpr (.inr rfl), (s hi).mpr (.inl h.shi), fun z hz => ?_, List.nodup_cons.mpr ⟨fun hm => ?_, h.nd⟩, .nd lo .lf T, ⟨(s lo).mpr (.inl h.slo), ⟨hv, fun z hz hh => ?_⟩, ?_⟩, fun a b => ?_⟩
  · rcases (s z).mp hz with hz | hz
    · have := h.bd z hz; omega
    · omega
  · exact ((hR lo hi).mp hm).2 (.inr ⟨rfl, rfl⟩)
  · rcases (s z).mp hz with hz | hz
    · have := h.bd z hz; omega
    · omega
  · exact hT.more (fun z hz => (s z).mpr (.inl hz)) fun z hz h1 h2 => ((s z).mp hz).resolve_right (by omega)
  · rw [List.mem_cons, hR a b]
    constructor
    · rintro (e | ⟨t, n⟩)
      · obtain ⟨rfl, rfl⟩ := Prod.mk.inj e
        refine ⟨.inr (.inr tie_root), ?_⟩
        rintro (w | w)
        · exact w x ((s x).mpr (.inl sx)) hx
        · omega
      · refine ⟨.inr (.inr t), ?_⟩
        have ti := tie_in hT t
        rintro (w | w)
        · exact n (.inl fun z hz => w z ((s z).mpr (.inl hz)))
        · omega
    · rintro ⟨⟨e1, e2⟩ | ⟨e1, e2⟩ | t, n⟩
      · exact absurd (.inr ⟨e1, e2⟩) n
      · refine absurd (.inl fun z hz hh => ?_) n
        rcases (s z).mp hz with hz | hz
        · have := h.bd z hz; omega
        · omega
      · have ti := tie_in hT t
        by_cases e : (a, b) = (lo, hi)
        · exact .inl e
        · refine .inr ⟨t, ?_⟩
          rintro (w | w)
          · refine n (.inl fun z hz hh => ?_)
            rcases (s z).mp hz with hz | hz
            · exact w z hz hh
            · omega
          · exact e (by rw [w.1, w.2])
theorem ear_last {S S' : Int → Prop} {lo hi v x : Int} {R : List (Int × Int)} (h : Cut S lo hi R) (s : ∀ z, S' z ↔ S z ∨ z = v) (hv : hi < v) (sx : S x) (hx : lo < x ∧ x < hi) : Cut S' lo v ((lo, hi) :: R) := by
  obtain ⟨T, hT, hR⟩ := h.ex
  have hlt := hT.lt
  refine ⟨(s lo).mpr (.inl h.slo), (s v).mpr (.inr rfl), fun z hz => ?_, List.nodup_cons.mpr ⟨fun hm => ?_, h.nd⟩, .nd hi T .lf, ⟨(s hi).mpr (.inl h.shi), ?_, ⟨hv, fun z hz hh => ?_⟩⟩, fun a b => ?_⟩
  · rcases (s z).mp hz with hz | hz
    · have := h.bd z hz; omega
    · omega
  · exact ((hR lo hi).mp hm).2 (.inr ⟨rfl, rfl⟩)
  · exact hT.more (fun z hz => (s z).mpr (.inl hz)) fun z hz h1 h2 => ((s z).mp hz).resolve_right (by omega)
  · rcases (s z).mp hz with hz | hz
    · have := h.bd z hz; omega
    · omega
  · rw [List.mem_cons, hR a b]
    constructor
    · rintro (e | ⟨t, n⟩)
      · obtain ⟨rfl, rfl⟩ := Prod.mk.inj e
        refine ⟨.inr (.inl tie_root), ?_⟩
        rintro (w | w)
        · exact w x ((s x).mpr (.inl sx)) hx
        · omega
      · refine ⟨.inr (.inl t), ?_⟩
        have ti := tie_in hT t
        rintro (w | w)
        · exact n (.inl fun z hz => w z ((s z).mpr (.inl hz)))
        · omega
    · rintro ⟨⟨e1, e2⟩ | t | ⟨e1, e2⟩, n⟩
      · exact absurd (.inr ⟨e1, e2⟩) n
      · have ti := tie_in hT t
        by_cases e : (a, b) = (lo, hi)
        · exact .inl e
        · refine .inr ⟨t, ?_⟩
          rintro (w | w)
          · refine n (.inl fun z hz hh => ?_)
            rcases (s z).mp hz with hz | hz
            · exact w z hz hh
            · omega
          · exact e (by rw [w.1, w.2])
      · refine absurd (.inl fun z hz hh => ?_) n
        rcases (s z).mp hz with hz | hz
        · have := h.bd z hz; omega
        · omega
theorem flip {S : Int → Prop} : ∀ {T : Tr} {lo hi a b : Int}, TOk S lo hi T → tie lo hi T a b → ¬ (a = lo ∧ b = hi) → ¬ (∀ z, S z → ¬ (a < z ∧ z < b)) →
    ∃ T' m p, TOk S lo hi T' ∧ a < m ∧ m < b ∧ tie lo hi T a m ∧ tie lo hi T m b ∧
      ((p < a ∧ tie lo hi T p a ∧ tie lo hi T p b ∧ ∀ x y, tie lo hi T' x y ↔ (tie lo hi T x y ∧ ¬ (x = a ∧ y = b)) ∨ (x = p ∧ y = m)) ∨
       (b < p ∧ tie lo hi T a p ∧ tie lo hi T b p ∧ ∀ x y, tie lo hi T' x y ↔ (tie lo hi T x y ∧ ¬ (x = a ∧ y = b)) ∨ (x = m ∧ y = p)))
  | .lf, lo, hi, a, b, h, t, n, _ => absurd t n
  | .nd m0 l r, lo, hi, a, b, ⟨sm, k1, k2⟩, t, n, na => by
    have q1 := k1.lt
    have q2 := k2.lt
    rcases t with t | t | t
    · exact absurd t n
    · have ti := tie_in k1 t
      by_cases e : a = lo ∧ b = m0
      · obtain ⟨e1, e2⟩ := e
        subst e1; subst e2
        match l, k1 with
        | .lf, k1 => exact absurd k1.2 na
        | .nd m1 l1 l2, ⟨sm1, j1, j2⟩ =>
          have r1 := j1.lt
          have r2 := j2.lt
          refine ⟨.nd m1 l1 (.nd b l2 r), m1, hi, ⟨sm1, j1, sm, j2, k2⟩, r1, r2, .inr (.inl (.inr (.inl tie_root))), .inr (.inl (.inr (.inr tie_root))), .inr ⟨q2, .inl ⟨rfl, rfl⟩, .inr (.inr tie_root), fun x y => ?_⟩⟩
          constructor
          · rintro (w | w | w | w | w)
            · exact .inl ⟨.inl w, by omega⟩
            · have := tie_in j1 w; exact .inl ⟨.inr (.inl (.inr (.inl w))), by omega⟩
            · exact .inr w
            · have := tie_in j2 w; exact .inl ⟨.inr (.inl (.inr (.inr w))), by omega⟩
            · have := tie_in k2 w; exact .inl ⟨.inr (.inr w), by omega⟩
          · rintro (⟨w | (w | w | w) | w, g⟩ | w)
            · exact .inl w
            · exact absurd w g
            · exact .inr (.inl w)
            · exact .inr (.inr (.inr (.inl w)))
            · exact .inr (.inr (.inr (.inr w)))
            · exact .inr (.inr (.inl w))
      · obtain ⟨T', m, p, hT', g1, g2, g3, g4, g5⟩ := flip k1 t e na
        refine ⟨.nd m0 T' r, m, p, ⟨sm, hT', k2⟩, g1, g2, .inr (.inl g3), .inr (.inl g4), ?_⟩
        rcases g5 with ⟨g5, g6, g7, g8⟩ | ⟨g5, g6, g7, g8⟩
        · refine .inl ⟨g5, .inr (.inl g6), .inr (.inl g7), fun x y => ?_⟩
          show (_ ∨ tie lo m0 T' x y ∨ _) ↔ _
          rw [g8 x y]
          constructor
          · rintro (w | (w | w) | w)
            · exact .inl ⟨.inl w, by omega⟩
            · exact .inl ⟨.inr (.inl w.1), w.2⟩
            · exact .inr w
            · have := tie_in k2 w; exact .inl ⟨.inr (.inr w), by omega⟩
          · rintro (⟨w | w | w, g⟩ | w)
            · exact .inl w
            · exact .inr (.inl (.inl ⟨w, g⟩))
            · exact .inr (.inr w)
            · exact .inr (.inl (.inr w))
        · refine .inr ⟨g5, .inr (.inl g6), .inr (.inl g7), fun x y => ?_⟩
          show (_ ∨ tie lo m0 T' x y ∨ _) ↔ _
          rw [g8 x y]
          constructor
          · rintro (w | (w | w) | w)
            · exact .inl ⟨.inl w, by omega⟩
            · exact .inl ⟨.inr (.inl w.1), w.2⟩
            · exact .inr w
            · have := tie_in k2 w; exact .inl ⟨.inr (.inr w), by omega⟩
          · rintro (⟨w | w | w, g⟩ | w)
            · exact .inl w
            · exact .inr (.inl (.inl ⟨w, g⟩))
            · exact .inr (.inr w)
            · exact .inr (.inl (.inr w))
    · have ti := tie_in k2 t
      by_cases e : a = m0 ∧ b = hi
      · obtain ⟨e1, e2⟩ := e
        subst e1; subst e2
        match r, k2 with
        | .lf, k2 => exact absurd k2.2 na
        | .nd m1 r1 r2, ⟨sm1, j1, j2⟩ =>
          have h1 := j1.lt
          have h2 := j2.lt
          refine ⟨.nd m1 (.nd a l r1) r2, m1, lo, ⟨sm1, ⟨sm, k1, j1⟩, j2⟩, h1, h2, .inr (.inr (.inr (.inl tie_root))), .inr (.inr (.inr (.inr tie_root))), .inl ⟨q1, .inr (.inl tie_root), .inl ⟨rfl, rfl⟩, fun x y => ?_⟩⟩
          constructor
          · rintro (w | (w | w | w) | w)
            · exact .inl ⟨.inl w, by omega⟩
            · exact .inr w
            · have := tie_in k1 w; exact .inl ⟨.inr (.inl w), by omega⟩
            · have := tie_in j1 w; exact .inl ⟨.inr (.inr (.inr (.inl w))), by omega⟩
            · have := tie_in j2 w; exact .inl ⟨.inr (.inr (.inr (.inr w))), by omega⟩
          · rintro (⟨w | w | (w | w | w), g⟩ | w)
            · exact .inl w
            · exact .inr (.inl (.inr (.inl w)))
            · exact absurd w g
            · exact .inr (.inl (.inr (.inr w)))
            · exact .inr (.inr w)
            · exact .inr (.inl (.inl w))
      · obtain ⟨T', m, p, hT', g1, g2, g3, g4, g5⟩ := flip k2 t e na
        refine ⟨.nd m0 l T', m, p, ⟨sm, k1, hT'⟩, g1, g2, .inr (.inr g3), .inr (.inr g4), ?_⟩
        rcases g5 with ⟨g5, g6, g7, g8⟩ | ⟨g5, g6, g7, g8⟩
        · refine .inl ⟨g5, .inr (.inr g6), .inr (.inr g7), fun x y => ?_⟩
          show (_ ∨ _ ∨ tie m0 hi T' x y) ↔ _
          rw [g8 x y]
          constructor
          · rintro (w | w | (w | w))
            · exact .inl ⟨.inl w, by omega⟩
            · have := tie_in k1 w; exact .inl ⟨.inr (.inl w), by omega⟩
            · exact .inl ⟨.inr (.inr w.1), w.2⟩
            · exact .inr w
          · rintro (⟨w | w | w, g⟩ | w)
            · exact .inl w
            · exact .inr (.inl w)
            · exact .inr (.inr (.inl ⟨w, g⟩))
            · exact .inr (.inr (.inr w))
        · refine .inr ⟨g5, .inr (.inr g6), .inr (.inr g7), fun x y => ?_⟩
          show (_ ∨ _ ∨ tie m0 hi T' x y) ↔ _
          rw [g8 x y]
          constructor
          · rintro (w | w | (w | w))
            · exact .inl ⟨.inl w, by omega⟩
            · have := tie_in k1 w; exact .inl ⟨.inr (.inl w), by omega⟩
            · exact .inl ⟨.inr (.inr w.1), w.2⟩
            · exact .inr w
          · rintro (⟨w | w | w, g⟩ | w)
            · exact .inl w
            · exact .inr (.inl w)
            · exact .inr (.inr (.inl ⟨w, g⟩))
            · exact .inr (.inr (.inr w))

/-! ### ears taken off, row by row -/
abbrev pr (a b : Int) : Int × Int := (min a b, max a b)
theorem sorted_lt {L : List Int} (h : L.Pairwise (· < ·)) {i j : Nat} {x y : Int} (hi : L[i]? = some x) (hj : L[j]? = some y) (hij : i < j) : x < y := by
  obtain ⟨h1, e1⟩ := List.getElem?_eq_some_iff.mp hi
  obtain ⟨h2, e2⟩ := List.getElem?_eq_some_iff.mp hj
  have := List.pairwise_iff_getElem.mp h i j h1 h2 hij
  rw [e1, e2] at this
  exact this
def CutL (L : List Int) (R : List (Int × Int)) : Prop := ∃ lo hi, L.head? = some lo ∧ L.getLast? = some hi ∧ Cut (· ∈ L) lo hi R
theorem sorted_split {A B : List Int} {v : Int} (h : (A ++ v :: B).Pairwise (· < ·)) : (∀ z ∈ A, z < v) ∧ (∀ z ∈ B, v < z) ∧ A.Pairwise (· < ·) ∧ B.Pairwise (· < ·) ∧ (∀ z ∈ A, ∀ y ∈ B, z < y) := by
  rw [List.pairwise_append, List.pairwise_cons] at h
  exact ⟨fun z hz => h.2.2 z hz v (List.mem_cons_self ..), h.2.1.1, h.1, h.2.1.2, fun z hz y hy => h.2.2 z hz y (List.mem_cons_of_mem _ hy)⟩
theorem mem_gap {A B : List Int} {v : Int} : ∀ z, z ∈ A ++ v :: B ↔ z ∈ A ++ B ∨ z = v := by
  intro z
  simp only [List.mem_append, List.mem_cons]
  constructor
  · rintro (h | h | h)
    · exact .inl (.inl h)
    · exact .inr h
    · exact .inl (.inr h)
  · rintro ((h | h) | h)
    · exact .inl h
    · exact .inr (.inr h)
    · exact .inr (.inl h)
theorem last_app {l m : List Int} (h : m ≠ []) : (l ++ m).getLast? = m.getLast? := by
  rw [List.getLast?_append]
  cases e : m.getLast? with
  | none => exact absurd (List.getLast?_eq_none_iff.mp e) h
  | some x => rfl
/-- the post at a place is left out: its neighbours get a rope -/
theorem ear_step {L : List Int} {k : Nat} {v p q : Int} {R : List (Int × Int)} (hL : L.Pairwise (· < ·)) (h4 : 4 ≤ L.length) (hv : L[k]? = some v)
    (hp : (if k = 0 then L.getLast? else L[k - 1]?) = some p) (hq : L[(k + 1) % L.length]? = some q) (h : CutL (L.take k ++ L.drop (k + 1)) R) : CutL L (pr p q :: R) := by
  obtain ⟨lo, hi, hlo, hhi, hc⟩ := h
  obtain ⟨hk, ev⟩ := List.getElem?_eq_some_iff.mp hv
  have eL : L = L.take k ++ v :: L.drop (k + 1) := by
    rw [← ev, ← List.drop_eq_getElem_cons hk, List.take_append_drop]
  have hs := hL
  rw [eL] at hs
  obtain ⟨s1, s2, s3, s4, s5⟩ := sorted_split hs
  have lA : (L.take k).length = k := by rw [List.length_take]; omega
  have lB : (L.drop (k + 1)).length = L.length - (k + 1) := List.length_drop
  have hpq := hp
  generalize eA : L.take k = A at *
  generalize eB : L.drop (k + 1) = B at *
  have sm : ∀ z, z ∈ L ↔ z ∈ A ++ B ∨ z = v := by rw [eL]; exact mem_gap
  have nv : ¬ v ∈ A ++ B := fun hm => by
    rcases List.mem_append.mp hm with hm | hm
    · exact absurd (s1 v hm) (Int.lt_irrefl _)
    · exact absurd (s2 v hm) (Int.lt_irrefl _)
  by_cases k0 : k = 0
  · -- the first
    subst k0
    have A0 : A = [] := List.length_eq_zero_iff.mp lA
    subst A0
    rw [List.nil_append] at *
    rw [Nat.mod_eq_of_lt (by omega)] at hq
    match B, lB with
    | [], lB => rw [List.length_nil] at lB; omega
    | [_], lB => rw [List.length_singleton] at lB; omega
    | [_, _], lB => simp only [List.length_cons, List.length_nil] at lB; omega
    | b0 :: b1 :: b2 :: B', lB =>
      rw [eL] at hq
      obtain rfl : b0 = q := by simpa using hq
      obtain rfl : b0 = lo := by simpa using hlo
      have e1 : L.getLast? = some hi := by
        rw [eL, List.getLast?_cons_cons]
        exact hhi
      rw [if_pos rfl, e1] at hp
      obtain rfl := Option.some.inj hp
      have hlt : b0 < b1 := (List.pairwise_cons.mp s4).1 b1 (by simp)
      have hb1 : b1 < hi := by
        rw [List.getLast?_cons_cons, List.getLast?_cons_cons] at hhi
        have hm : hi ∈ b2 :: B' := List.mem_of_getLast? hhi
        exact (List.pairwise_cons.mp (List.pairwise_cons.mp s4).2).1 hi hm
      have epr : pr hi b0 = (b0, hi) := by
        show (min hi b0, max hi b0) = _
        rw [Int.min_eq_right (by omega), Int.max_eq_left (by omega)]
      rw [epr]
      refine ⟨v, hi, by rw [eL]; rfl, e1, ear_first hc sm (s2 b0 (by simp)) (x := b1) (by simp) ⟨hlt, hb1⟩⟩
  · rw [if_neg k0] at hp
    have hkA : A ≠ [] := fun e => by rw [e] at lA; exact k0 lA.symm
    obtain ⟨A', a, eA'⟩ : ∃ A' a, A = A' ++ [a] := ⟨A.dropLast, A.getLast hkA, (List.dropLast_concat_getLast hkA).symm⟩
    subst eA'
    rw [List.length_append, List.length_singleton] at lA
    have epa : a = p := by
      rw [eL, List.append_assoc] at hp
      rw [List.getElem?_append_right (by omega)] at hp
      rw [show k - 1 - A'.length = 0 by omega] at hp
      exact Option.some.inj hp
    subst epa
    have hav : a < v := s1 a (by simp)
    match B, lB with
    | [], lB =>
      -- the last
      rw [List.length_nil] at lB
      have hkl : k + 1 = L.length := by omega
      rw [hkl, Nat.mod_self] at hq
      match A', lA with
      | [], lA => rw [List.length_nil] at lA; omega
      | a0 :: A'', lA =>
        rw [eL] at hq
        obtain rfl : a0 = q := by simpa using hq
        obtain rfl : a0 = lo := by simpa using hlo
        obtain rfl : a = hi := by
          rw [List.append_nil, List.getLast?_concat] at hhi
          exact Option.some.inj hhi
        match A'', lA with
        | [], lA => rw [List.length_singleton] at lA; omega
        | a1 :: A3, lA =>
          have h1 : a0 < a1 := (List.pairwise_cons.mp s3).1 a1 (by simp)
          have h2 : a1 < a := by
            have := (List.pairwise_cons.mp (List.pairwise_cons.mp s3).2).1 a (by simp)
            exact this
          have epr : pr a a0 = (a0, a) := by
            show (min a a0, max a a0) = _
            rw [Int.min_eq_right (by omega), Int.max_eq_left (by omega)]
          rw [epr]
          refine ⟨a0, v, by rw [eL]; rfl, by rw [eL, List.getLast?_concat], ear_last hc sm hav (x := a1) (by simp) ⟨h1, h2⟩⟩
    | b0 :: B', lB =>
      rw [List.length_cons] at lB
      rw [Nat.mod_eq_of_lt (by omega)] at hq
      have ebq : b0 = q := by
        rw [eL] at hq
        rw [List.getElem?_append_right (by rw [List.length_append, List.length_singleton]; omega), List.length_append, List.length_singleton] at hq
        rw [show k + 1 - (A'.length + 1) = 1 by omega] at hq
        exact Option.some.inj hq
      subst ebq
      have hvb : v < b0 := s2 b0 (by simp)
      have epr : pr a b0 = (a, b0) := by
        show (min a b0, max a b0) = _
        rw [Int.min_eq_left (by omega), Int.max_eq_right (by omega)]
      rw [epr]
      refine ⟨lo, hi, ?_, ?_, ear_mid hc sm nv (by simp) (by simp) hav hvb (fun z hz => ?_) ?_⟩
      · rw [eL]
        cases A' with
        | nil => simpa using hlo
        | cons x A' => simpa using hlo
      · rw [eL]
        rw [last_app (by simp)] at hhi ⊢
        rw [List.getLast?_cons_cons]
        exact hhi
      · rcases List.mem_append.mp hz with hz | hz
        · rcases List.mem_append.mp hz with hz | hz
          · have := (List.pairwise_append.mp s3).2.2 z hz a (by simp); omega
          · have := List.mem_singleton.mp hz; omega
        · rcases List.mem_cons.mp hz with hz | hz
          · omega
          · have := (List.pairwise_cons.mp s4).1 z hz; omega
      · rintro ⟨e1, e2⟩
        subst e1; subst e2
        have z1 : A' = [] := by
          cases A' with
          | nil => rfl
          | cons x A' =>
            obtain rfl : x = a := by simpa using hlo
            exact absurd ((List.pairwise_cons.mp s3).1 x (by simp)) (Int.lt_irrefl _)
        have z2 : B' = [] := by
          cases B' with
          | nil => rfl
          | cons x B' =>
            rw [last_app (by simp), List.getLast?_cons_cons] at hhi
            have hm : b0 ∈ x :: B' := List.mem_of_getLast? hhi
            exact absurd ((List.pairwise_cons.mp s4).1 b0 hm) (Int.lt_irrefl _)
        subst z1; subst z2
        simp only [List.length_nil] at lA lB
        omega
theorem cut3 {a b c : Int} (h1 : a < b) (h2 : b < c) : CutL [a, b, c] [] := by
  refine ⟨a, c, rfl, rfl, by simp, by simp, fun z hz => ?_, List.nodup_nil, .nd b .lf .lf, ⟨by simp, ⟨h1, fun z hz hh => ?_⟩, h2, fun z hz hh => ?_⟩, fun x y => ?_⟩
  · simp only [List.mem_cons, List.not_mem_nil, or_false] at hz
    omega
  · simp only [List.mem_cons, List.not_mem_nil, or_false] at hz
    omega
  · simp only [List.mem_cons, List.not_mem_nil, or_false] at hz
    omega
  · constructor
    · intro h; cases h
    · rintro ⟨w | w | w, n⟩
      · exact absurd (.inr w) n
      · obtain ⟨e1, e2⟩ := w
        refine absurd (.inl fun z hz hh => ?_) n
        simp only [List.mem_cons, List.not_mem_nil, or_false] at hz
        omega
      · obtain ⟨e1, e2⟩ := w
        refine absurd (.inl fun z hz hh => ?_) n
        simp only [List.mem_cons, List.not_mem_nil, or_false] at hz
        omega

/-! ### cuttings of n posts -/
def inR (n : Int) : Int → Prop := fun z => 0 ≤ z ∧ z < n
def rng (n : Int) : List Int := (List.range n.toNat).map (fun k : Nat => (k : Int))
def sidesL (n : Int) : List (Int × Int) := (rng (n - 1)).map (fun k => (k, k + 1)) ++ [(0, n - 1)]
theorem mem_rng {n z : Int} : z ∈ rng n ↔ 0 ≤ z ∧ z < n := by
  unfold rng
  rw [List.mem_map]
  constructor
  · rintro ⟨k, hk, rfl⟩
    have := List.mem_range.mp hk
    omega
  · rintro ⟨h1, h2⟩
    exact ⟨z.toNat, List.mem_range.mpr (by omega), by omega⟩
theorem rng_sorted (n : Int) : (rng n).Pairwise (· < ·) := by
  unfold rng
  rw [List.pairwise_map]
  exact (List.pairwise_lt_range).imp fun h => by omega
theorem rng_len (n : Int) : (rng n).length = n.toNat := by
  unfold rng; rw [List.length_map, List.length_range]
structure IsCut (n : Int) (R : List (Int × Int)) : Prop where
  three : 3 ≤ n
  nd : R.Nodup
  ex : ∃ T, TOk (inR n) 0 (n - 1) T ∧ ∀ a b, (a, b) ∈ R ↔ tie 0 (n - 1) T a b ∧ a + 2 ≤ b ∧ ¬ (a = 0 ∧ b = n - 1)
theorem isCut_of {n : Int} {R : List (Int × Int)} (h3 : 3 ≤ n) (h : CutL (rng n) R) : IsCut n R := by
  obtain ⟨lo, hi, hlo, hhi, hc⟩ := h
  have m1 := mem_rng.mp hc.slo
  have m2 := mem_rng.mp hc.shi
  have z1 := hc.bd 0 (mem_rng.mpr (by omega))
  have z2 := hc.bd (n - 1) (mem_rng.mpr (by omega))
  have e1 : lo = 0 := by omega
  have e2 : hi = n - 1 := by omega
  subst e1; subst e2
  obtain ⟨T, hT, hR⟩ := hc.ex
  have hT' : TOk (inR n) 0 (n - 1) T := hT.more (fun z hz => mem_rng.mp hz) fun z hz _ _ => mem_rng.mpr hz
  refine ⟨h3, hc.nd, T, hT', fun a b => (hR a b).trans ⟨?_, ?_⟩⟩
  · rintro ⟨t, n1⟩
    have ti := tie_in hT t
    refine ⟨t, ?_, fun e => n1 (.inr e)⟩
    rcases Int.lt_or_le (a + 1) b with h | h
    · omega
    · exact absurd (.inl fun z _ hh => by omega) n1
  · rintro ⟨t, g1, g2⟩
    have ti := tie_in hT t
    refine ⟨t, ?_⟩
    rintro (w | w)
    · exact w (a + 1) (mem_rng.mpr (by omega)) (by omega)
    · exact g2 w
theorem ties_iff {n : Int} {R : List (Int × Int)} {T : Tr} (h3 : 3 ≤ n) (hT : TOk (inR n) 0 (n - 1) T) (hR : ∀ a b, (a, b) ∈ R ↔ tie 0 (n - 1) T a b ∧ a + 2 ≤ b ∧ ¬ (a = 0 ∧ b = n - 1)) :
    ∀ a b, (a, b) ∈ sidesL n ++ R ↔ tie 0 (n - 1) T a b := by
  intro a b
  unfold sidesL
  rw [List.mem_append, List.mem_append, List.mem_singleton, List.mem_map, hR a b]
  constructor
  · rintro ((⟨k, hk, e⟩ | e) | h)
    · obtain ⟨rfl, rfl⟩ := Prod.mk.inj e
      have := mem_rng.mp hk
      exact tie_adj hT ⟨by omega, by omega⟩ ⟨by omega, by omega⟩ ⟨by omega, by omega⟩ ⟨by omega, by omega⟩ (by omega) (fun z _ hh => by omega) (by omega) (by omega)
    · obtain ⟨rfl, rfl⟩ := Prod.mk.inj e
      exact tie_root
    · exact h.1
  · intro t
    have ti := tie_in hT t
    by_cases h1 : a + 2 ≤ b
    · by_cases h2 : a = 0 ∧ b = n - 1
      · exact .inl (.inr (by rw [h2.1, h2.2]))
      · exact .inr ⟨t, h1, h2⟩
    · exact .inl (.inl ⟨a, mem_rng.mpr (by omega), by rw [show b = a + 1 by omega]⟩)
/-- x makes a plot with a and b -/
def Bes (lo hi : Int) (T : Tr) (a b x : Int) : Prop := (a < x ∧ x < b ∧ tie lo hi T a x ∧ tie lo hi T x b) ∨ (x < a ∧ tie lo hi T x a ∧ tie lo hi T x b) ∨ (b < x ∧ tie lo hi T a x ∧ tie lo hi T b x)
theorem bes_iff {S : Int → Prop} {lo hi a b x : Int} {T : Tr} (hT : TOk S lo hi T) (hab : a < b) : Bes lo hi T a b x ↔ tie lo hi T (min a x) (max a x) ∧ tie lo hi T (min b x) (max b x) := by
  constructor
  · rintro (⟨h1, h2, h3, h4⟩ | ⟨h1, h2, h3⟩ | ⟨h1, h2, h3⟩)
    · rw [Int.min_eq_left (by omega), Int.max_eq_right (by omega), Int.min_eq_right (by omega), Int.max_eq_left (by omega)]
      exact ⟨h3, h4⟩
    · rw [Int.min_eq_right (by omega), Int.max_eq_left (by omega), Int.min_eq_right (by omega), Int.max_eq_left (by omega)]
      exact ⟨h2, h3⟩
    · rw [Int.min_eq_left (by omega), Int.max_eq_right (by omega), Int.min_eq_left (by omega), Int.max_eq_right (by omega)]
      exact ⟨h2, h3⟩
  · rintro ⟨t, u⟩
    have t1 := tie_in hT t
    have u1 := tie_in hT u
    rcases Int.lt_trichotomy x a with h | h | h
    · rw [Int.min_eq_right (by omega), Int.max_eq_left (by omega)] at t u
      exact .inr (.inl ⟨h, t, u⟩)
    · omega
    · rcases Int.lt_trichotomy x b with g | g | g
      · rw [Int.min_eq_left (by omega), Int.max_eq_right (by omega)] at t
        rw [Int.min_eq_right (by omega), Int.max_eq_left (by omega)] at u
        exact .inl ⟨h, g, t, u⟩
      · omega
      · rw [Int.min_eq_left (by omega), Int.max_eq_right (by omega)] at t u
        exact .inr (.inr ⟨g, t, u⟩)
theorem bes_in {S : Int → Prop} {lo hi a b x y : Int} {T : Tr} (hT : TOk S lo hi T) (hab : a < b) (hx : Bes lo hi T a b x) (hy : Bes lo hi T a b y) (h1 : a < x) (h2 : x < b) (h3 : a < y) (h4 : y < b) : x = y := by
  rcases hx with ⟨_, _, x1, x2⟩ | ⟨_, x1, x2⟩ | ⟨_, x1, x2⟩ <;> rcases hy with ⟨_, _, y1, y2⟩ | ⟨_, y1, y2⟩ | ⟨_, y1, y2⟩ <;> first | omega | skip
  rcases Int.lt_trichotomy x y with h | h | h
  · exact (nocross hT y1 x2 h1 h h4).elim
  · exact h
  · exact (nocross hT x1 y2 h3 h h2).elim
theorem bes_out {S : Int → Prop} {lo hi a b x y : Int} {T : Tr} (hT : TOk S lo hi T) (hab : a < b) (hx : Bes lo hi T a b x) (hy : Bes lo hi T a b y) (h1 : ¬ (a < x ∧ x < b)) (h2 : ¬ (a < y ∧ y < b)) : x = y := by
  rcases hx with ⟨x0, x00, _, _⟩ | ⟨x0, x1, x2⟩ | ⟨x0, x1, x2⟩
  · exact absurd ⟨x0, x00⟩ h1
  · rcases hy with ⟨y0, y00, _, _⟩ | ⟨y0, y1, y2⟩ | ⟨y0, y1, y2⟩
    · exact absurd ⟨y0, y00⟩ h2
    · rcases Int.lt_trichotomy x y with h | h | h
      · exact (nocross hT x1 y2 h y0 hab).elim
      · exact h
      · exact (nocross hT y1 x2 h x0 hab).elim
    · exact (nocross hT x2 y1 x0 hab y0).elim
  · rcases hy with ⟨y0, y00, _, _⟩ | ⟨y0, y1, y2⟩ | ⟨y0, y1, y2⟩
    · exact absurd ⟨y0, y00⟩ h2
    · exact (nocross hT y2 x1 y0 hab x0).elim
    · rcases Int.lt_trichotomy x y with h | h | h
      · exact (nocross hT x1 y2 hab x0 h).elim
      · exact h
      · exact (nocross hT y1 x2 hab y0 h).elim
theorem sorted_ext {l m : List Int} (h1 : l.Pairwise (· < ·)) (h2 : m.Pairwise (· < ·)) (h : ∀ x, x ∈ l ↔ x ∈ m) : l = m := by
  have n1 : l.Nodup := h1.imp fun h => Int.ne_of_lt h
  have n2 : m.Nodup := h2.imp fun h => Int.ne_of_lt h
  exact List.Perm.eq_of_pairwise (le := (· < ·)) (fun a b _ _ x y => absurd (Int.lt_trans x y) (Int.lt_irrefl _)) h1 h2 ((List.perm_ext_iff_of_nodup n1 n2).mpr h)
def besL (t : List (Int × Int)) (n a b : Int) : List Int := (rng n).filter fun p => decide (pr a p ∈ t) && decide (pr b p ∈ t)
theorem besL_comm (t : List (Int × Int)) (n a b : Int) : besL t n a b = besL t n b a := by
  unfold besL
  refine List.filter_congr fun x _ => ?_
  rw [Bool.and_comm]
theorem besL_pr (t : List (Int × Int)) (n a b : Int) : besL t n a b = besL t n (pr a b).1 (pr a b).2 := by
  show _ = besL t n (min a b) (max a b)
  rcases Int.le_total a b with h | h
  · rw [Int.min_eq_left h, Int.max_eq_right h]
  · rw [Int.min_eq_right h, Int.max_eq_left h, besL_comm]
theorem besL_mem {n : Int} {t : List (Int × Int)} {T : Tr} (hT : TOk (inR n) 0 (n - 1) T) (ht : ∀ a b, (a, b) ∈ t ↔ tie 0 (n - 1) T a b) {a b : Int} (hab : a < b) : ∀ x, x ∈ besL t n a b ↔ Bes 0 (n - 1) T a b x := by
  intro x
  rw [bes_iff hT hab]
  unfold besL
  rw [List.mem_filter, Bool.and_eq_true, decide_eq_true_eq, decide_eq_true_eq, ht, ht, mem_rng]
  constructor
  · exact fun h => h.2
  · intro h
    have := tie_in hT h.1
    have := tie_in hT h.2
    refine ⟨?_, h⟩
    omega
theorem besL_sorted (t : List (Int × Int)) (n a b : Int) : (besL t n a b).Pairwise (· < ·) := (rng_sorted n).filter _
/-- beside a side stands one post, beside a rope two -/
theorem beside_side {n : Int} {t : List (Int × Int)} {T : Tr} (h3 : 3 ≤ n) (hT : TOk (inR n) 0 (n - 1) T) (ht : ∀ a b, (a, b) ∈ t ↔ tie 0 (n - 1) T a b) {a b : Int} (h : tie 0 (n - 1) T a b) (hs : ¬ (a + 2 ≤ b ∧ ¬ (a = 0 ∧ b = n - 1))) :
    ∃ m, besL t n a b = [m] := by
  have ti := tie_in hT h
  have hm := besL_mem hT ht ti.2.1
  by_cases h1 : a + 2 ≤ b
  · have h2 : a = 0 ∧ b = n - 1 := Decidable.by_contra fun q => hs ⟨h1, q⟩
    rcases inner hT h with q | ⟨m, q1, q2, q3, q4⟩
    · exact absurd (q (a + 1) ⟨by omega, by omega⟩) (by omega)
    · have hb : Bes 0 (n - 1) T a b m := .inl ⟨q1, q2, q3, q4⟩
      refine ⟨m, sorted_ext (besL_sorted ..) (List.pairwise_singleton ..) fun x => ?_⟩
      rw [hm, List.mem_singleton]
      constructor
      · intro g
        have : a < x ∧ x < b := by
          rcases g with ⟨g1, g2, _, _⟩ | ⟨g1, g2, g3⟩ | ⟨g1, g2, g3⟩
          · exact ⟨g1, g2⟩
          · have := tie_in hT g2; omega
          · have := tie_in hT g2; omega
        exact bes_in hT ti.2.1 g hb this.1 this.2 q1 q2
      · rintro rfl
        exact hb
  · obtain ⟨p, hp⟩ := outer hT h (by omega)
    have hb : Bes 0 (n - 1) T a b p := by
      rcases hp with hp | hp
      · exact .inr (.inl hp)
      · exact .inr (.inr hp)
    refine ⟨p, sorted_ext (besL_sorted ..) (List.pairwise_singleton ..) fun x => ?_⟩
    rw [hm, List.mem_singleton]
    constructor
    · intro g
      exact bes_out hT ti.2.1 g hb (by omega) (by omega)
    · rintro rfl
      exact hb
theorem beside_rope {n : Int} {t : List (Int × Int)} {T : Tr} (hT : TOk (inR n) 0 (n - 1) T) (ht : ∀ a b, (a, b) ∈ t ↔ tie 0 (n - 1) T a b) {a b : Int} (h : tie 0 (n - 1) T a b) (h1 : a + 2 ≤ b) (h2 : ¬ (a = 0 ∧ b = n - 1)) :
    ∃ m p T', a < m ∧ m < b ∧ TOk (inR n) 0 (n - 1) T' ∧ ((p < a ∧ 0 ≤ p ∧ besL t n a b = [p, m] ∧ ∀ x y, tie 0 (n - 1) T' x y ↔ (tie 0 (n - 1) T x y ∧ ¬ (x = a ∧ y = b)) ∨ (x = p ∧ y = m)) ∨
      (b < p ∧ p < n ∧ besL t n a b = [m, p] ∧ ∀ x y, tie 0 (n - 1) T' x y ↔ (tie 0 (n - 1) T x y ∧ ¬ (x = a ∧ y = b)) ∨ (x = m ∧ y = p))) := by
  have ti := tie_in hT h
  have hm := besL_mem hT ht ti.2.1
  obtain ⟨T', m, p, hT', g1, g2, g3, g4, g5⟩ := flip hT h h2 (fun q => q (a + 1) ⟨by omega, by omega⟩ (by omega))
  refine ⟨m, p, T', g1, g2, hT', ?_⟩
  have bm : Bes 0 (n - 1) T a b m := .inl ⟨g1, g2, g3, g4⟩
  rcases g5 with ⟨q1, q2, q3, q4⟩ | ⟨q1, q2, q3, q4⟩
  · have bp : Bes 0 (n - 1) T a b p := .inr (.inl ⟨q1, q2, q3⟩)
    refine .inl ⟨q1, (tie_in hT q2).1, sorted_ext (besL_sorted ..) (by simp; omega) fun x => ?_, q4⟩
    rw [hm]
    simp only [List.mem_cons, List.not_mem_nil, or_false]
    constructor
    · intro g
      by_cases hx : a < x ∧ x < b
      · exact .inr (bes_in hT ti.2.1 g bm hx.1 hx.2 g1 g2)
      · exact .inl (bes_out hT ti.2.1 g bp hx (by omega))
    · rintro (rfl | rfl)
      · exact bp
      · exact bm
  · have bp : Bes 0 (n - 1) T a b p := .inr (.inr ⟨q1, q2, q3⟩)
    have tq := tie_in hT q2
    refine .inr ⟨q1, by omega, sorted_ext (besL_sorted ..) (by simp; omega) fun x => ?_, q4⟩
    rw [hm]
    simp only [List.mem_cons, List.not_mem_nil, or_false]
    constructor
    · intro g
      by_cases hx : a < x ∧ x < b
      · exact .inl (bes_in hT ti.2.1 g bm hx.1 hx.2 g1 g2)
      · exact .inr (bes_out hT ti.2.1 g bp hx (by omega))
    · rintro (rfl | rfl)
      · exact bm
      · exact bp
theorem beside_cnt {n : Int} {R t : List (Int × Int)} (hc : IsCut n R) (ht : ∀ p, p ∈ t ↔ p ∈ sidesL n ++ R) {a b : Int} (h : pr a b ∈ t) : (besL t n a b).length = 1 + (if pr a b ∈ R then 1 else 0) := by
  obtain ⟨T, hT, hR⟩ := hc.ex
  have ht' : ∀ a b, (a, b) ∈ t ↔ tie 0 (n - 1) T a b := fun a b => (ht _).trans (ties_iff hc.three hT hR a b)
  rw [besL_pr]
  generalize e : pr a b = q at *
  obtain ⟨a', b'⟩ := q
  have h' := (ht' a' b').mp h
  show (besL t n a' b').length = _
  by_cases hr : a' + 2 ≤ b' ∧ ¬ (a' = 0 ∧ b' = n - 1)
  · rw [if_pos ((hR a' b').mpr ⟨h', hr⟩)]
    obtain ⟨m, p, T', _, _, _, g | g⟩ := beside_rope hT ht' h' hr.1 hr.2
    · rw [g.2.2.1]; rfl
    · rw [g.2.2.1]; rfl
  · rw [if_neg (fun q => hr ((hR a' b').mp q).2)]
    obtain ⟨m, e⟩ := beside_side hc.three hT ht' h' hr
    rw [e]; rfl
/-- turning a rope makes a cutting -/
theorem turn_cut {n : Int} {R t : List (Int × Int)} (hc : IsCut n R) (ht : ∀ p, p ∈ t ↔ p ∈ sidesL n ++ R) {a b : Int} (h : (a, b) ∈ R) :
    ∃ x y, besL t n a b = [x, y] ∧ 0 ≤ x ∧ x < y ∧ y < n ∧ (x, y) ∉ R ∧ ((x < a ∧ a < y ∧ y < b) ∨ (a < x ∧ x < b ∧ b < y)) ∧ ∀ R' : List (Int × Int), R'.Nodup → (∀ p, p ∈ R' ↔ (p ∈ R ∧ p ≠ (a, b)) ∨ p = (x, y)) → IsCut n R' := by
  obtain ⟨T, hT, hR⟩ := hc.ex
  have ht' : ∀ a b, (a, b) ∈ t ↔ tie 0 (n - 1) T a b := fun a b => (ht _).trans (ties_iff hc.three hT hR a b)
  obtain ⟨h1, h2, h3⟩ := (hR a b).mp h
  have ti := tie_in hT h1
  obtain ⟨m, p, T', g1, g2, hT', g | g⟩ := beside_rope hT ht' h1 h2 h3
  · obtain ⟨q1, q2, q3, q4⟩ := g
    refine ⟨p, m, q3, q2, by omega, by omega, fun hm => ?_, .inl ⟨q1, g1, g2⟩, fun R' hn hR' => ⟨hc.three, hn, T', hT', fun x y => ?_⟩⟩
    · exact nocross hT ((hR p m).mp hm).1 h1 q1 g1 g2
    · rw [hR', hR, q4]
      constructor
      · rintro (⟨⟨w1, w2⟩, w3⟩ | w)
        · exact ⟨.inl ⟨w1, fun e => w3 (by rw [e.1, e.2])⟩, w2⟩
        · obtain ⟨rfl, rfl⟩ := Prod.mk.inj w
          exact ⟨.inr ⟨rfl, rfl⟩, by omega, by omega⟩
      · rintro ⟨⟨w1, w2⟩ | ⟨e1, e2⟩, w3⟩
        · exact .inl ⟨⟨w1, w3⟩, fun e => w2 (Prod.mk.inj e)⟩
        · exact .inr (by rw [e1, e2])
  · obtain ⟨q1, q2, q3, q4⟩ := g
    refine ⟨m, p, q3, by omega, by omega, q2, fun hm => ?_, .inr ⟨g1, g2, q1⟩, fun R' hn hR' => ⟨hc.three, hn, T', hT', fun x y => ?_⟩⟩
    · exact nocross hT h1 ((hR m p).mp hm).1 g1 g2 q1
    · rw [hR', hR, q4]
      constructor
      · rintro (⟨⟨w1, w2⟩, w3⟩ | w)
        · exact ⟨.inl ⟨w1, fun e => w3 (by rw [e.1, e.2])⟩, w2⟩
        · obtain ⟨rfl, rfl⟩ := Prod.mk.inj w
          exact ⟨.inr ⟨rfl, rfl⟩, by omega, by omega⟩
      · rintro ⟨⟨w1, w2⟩ | ⟨e1, e2⟩, w3⟩
        · exact .inl ⟨⟨w1, w3⟩, fun e => w2 (Prod.mk.inj e)⟩
        · exact .inr (by rw [e1, e2])

theorem cut_ints (rs : List Int) (lo : Int) (h0 : 0 ≤ lo) : ∃ rs' : List Int, cutV (rs.map V.int) (some lo) none = rs'.map V.int ∧ rs'.length = rs.length - lo.toNat := by
  refine ⟨(rs.drop lo.toNat), ?_, List.length_drop⟩
  unfold cutV
  rw [HT.sIx_none]
  have e : HT.sIx (rs.map V.int).length 0 (some lo) = min lo.toNat (rs.map V.int).length := by
    show (if lo < 0 then _ else _) = _
    rw [if_neg (by omega)]
  rw [e, List.length_map]
  have h2 : (rs.map V.int).drop (min lo.toNat rs.length) = (rs.drop lo.toNat).map V.int := by
    rw [List.map_drop]
    rcases Nat.le_total lo.toNat rs.length with h | h
    · rw [Nat.min_eq_left h]
    · rw [Nat.min_eq_right h, List.drop_of_length_le (by rw [List.length_map]; exact Nat.le_refl _), List.drop_of_length_le (by rw [List.length_map]; exact h)]
  rw [h2, List.take_of_length_le]
  rw [List.length_map, List.length_drop]
  omega
theorem int_at {rs : List Int} {k : Nat} (h : k < rs.length) : ∃ v : Int, v ∈ rs ∧ atI (rs.map V.int) (k : Int) = some (.int v) := by
  refine ⟨rs[k], List.getElem_mem h, atI_nat ?_⟩
  rw [List.getElem?_map, List.getElem?_eq_getElem h]
  rfl

theorem cut_take (xs : List V) (k : Nat) : cutV xs none (some (k : Int)) = xs.take k := by
  unfold cutV
  rw [HT.sIx_none, HT.sIx_nat, List.drop_zero, Nat.sub_zero, Nat.min_def]
  split
  · rfl
  · rw [List.take_length, List.take_of_length_le (by omega)]
theorem cut_drop (xs : List V) (k : Nat) : cutV xs (some (k : Int)) none = xs.drop k := by
  unfold cutV
  rw [HT.sIx_none, HT.sIx_nat]
  have e : xs.drop (min k xs.length) = xs.drop k := by
    rw [Nat.min_def]
    split
    · rfl
    · rw [List.drop_length, List.drop_of_length_le (by omega)]
  rw [e, List.take_of_length_le]
  rw [List.length_drop]
  omega
theorem yes_read {A B : Hp → Prop} {σ : L2.St} {H : Hp} (h : A H) : tYes σ H (fun b H3 => if b = true then A H3 else B H3) := by
  show if true = true then A H else B H
  rw [if_pos rfl]
  exact h
theorem small200 {n : Nat} (h : n ≤ 200) : n ≤ sizeLine := Nat.le_trans h (by decide)
theorem small200' {n : Nat} (h : n < 200) : n < sizeLine := Nat.lt_of_lt_of_le h (by decide)
theorem take_more {α : Type} {l : List α} {i : Nat} {x : α} (h : l[i]? = some x) : l.take (i + 1) = l.take i ++ [x] := by
  rw [List.take_add_one, h]; rfl
theorem rng_more (n : Int) (i : Nat) (h : i < n.toNat) : (rng n).take (i + 1) = (rng n).take i ++ [(i : Int)] := by
  refine take_more ?_
  unfold rng
  rw [List.getElem?_map, List.getElem?_range h]
  rfl

theorem and_t {A B : Prop} [Decidable A] [Decidable B] (h : decide A = true) : decide (A ∧ B) = decide B := by
  have := of_decide_eq_true h
  rw [decide_eq_decide]
  exact ⟨fun h => h.2, fun h => ⟨this, h⟩⟩
theorem and_f {A B : Prop} [Decidable A] [Decidable B] (h : ¬ decide A = true) : decide (A ∧ B) = false := decide_eq_false fun q => nd h q.1
theorem pmin (a b : Int) : (if b < a then b else a) = min a b := by
  by_cases h : b < a
  · rw [if_pos h, Int.min_eq_right (by omega)]
  · rw [if_neg h, Int.min_eq_left (by omega)]
theorem pmax (a b : Int) : (if b > a then b else a) = max a b := by
  by_cases h : b > a
  · rw [if_pos h, Int.max_eq_right (by omega)]
  · rw [if_neg h, Int.max_eq_left (by omega)]

/-! ### a cutting drawn -/
def sp_many (K : PySem.W.Frag) : Sp := fun vs H Q _ => ∃ (p : Addr) (rs : List Int), vs = [.ref p] ∧ SqL K H p (rs.map V.int) ∧ 2 ≤ rs.length ∧ ∀ n : Int, 3 ≤ n → n ≤ 12 → Q (.int n) H
theorem ok__law_many (T : Env K mg) : FnOk P w K mg base CX0 1 T.a__law_many T.fd__law_many ["_law_row"] (sp_many K) := by
  refine T.F__law_many.ok sc__law_many (fun vs H Q E h => ?_) (fun cdv A outer s H vs Q E hr h => ?_)
  · obtain ⟨p, rs, rfl, _⟩ := h
    rfl
  · obtain ⟨p, rs, rfl, hS, hl, q⟩ := h
    refine ⟨_, (pss_cons (ps_if (pt_cmpR op_eq (pe_op op_mod (pe_ix ix_list (pv 0) pe_int (fun _ _ => rfl)) pe_int) pe_int (nomark _))
 (pss_one (ps_ret (pe_op op_add pe_int (pe_op op_mod (pe_ix ix_list (pv 0) pe_int (fun _ _ => rfl)) pe_int))))
 pss_nil)
 (pss_one (ps_ret (pe_op op_add pe_int (pe_op op_mod (pe_ix ix_list (pv 0) pe_int (fun _ _ => rfl)) pe_int))))), ?_⟩
    obtain ⟨r0, m0, a0⟩ := int_at (rs := rs) (k := 0) (by omega)
    obtain ⟨r1, m1, a1⟩ := int_at (rs := rs) (k := 1) (by omega)
    have h4 := Int.emod_nonneg r1 (show (4 : Int) ≠ 0 by decide)
    have h4' := Int.emod_lt_of_pos r1 (show (0 : Int) < 4 by decide)
    have h6 := Int.emod_nonneg r1 (show (6 : Int) ≠ 0 by decide)
    have h6' := Int.emod_lt_of_pos r1 (show (0 : Int) < 6 by decide)
    refine ⟨_, rfl, p, _, _, _, rfl, rfl, hS, a0, _, _, rfl, rfl, (by show (0 : Int) < _; decide), rfl, _, rfl, ite2 (fun _ => ?_) (fun _ => ?_)⟩
    · exact ⟨_, rfl, p, _, _, _, rfl, rfl, hS, a1, _, _, rfl, rfl, (by show (0 : Int) < _; decide), _, _, rfl, rfl, q _ (by omega) (by omega)⟩
    · exact ⟨_, rfl, p, _, _, _, rfl, rfl, hS, a1, _, _, rfl, rfl, (by show (0 : Int) < _; decide), _, _, rfl, rfl, q _ (by omega) (by omega)⟩

def sp_pair : Sp := fun vs H Q _ => ∃ a b : Int, vs = [.int a, .int b] ∧ ∀ t, H t = none → Q (.ref t) (upd H t (.tup [.int (pr a b).1, .int (pr a b).2]))
theorem ok__law_pair (T : Env K mg) : FnOk P w K mg base CX0 1 T.a__law_pair T.fd__law_pair ["_law_a", "_law_b"] sp_pair := by
  refine T.F__law_pair.ok sc__law_pair (fun vs H Q E h => ?_) (fun cdv A outer s H vs Q E hr h => ?_)
  · obtain ⟨a, b, rfl, _⟩ := h
    rfl
  · obtain ⟨a, b, rfl, q⟩ := h
    refine ⟨_, (pss_one (ps_ret (pe_tup (pa_cons (pe_callB (call_min2 rfl) (by rfl) T.m_min (by decide +kernel) (pa_cons (pv 0) (pa_cons (pv 1) pa_nil))) (pa_cons (pe_callB (call_max2 rfl) (by rfl) T.m_max (by decide +kernel) (pa_cons (pv 0) (pa_cons (pv 1) pa_nil))) pa_nil))))), ?_⟩
    refine ⟨_, rfl, _, rfl, _, _, rfl, _, rfl, _, rfl, _, _, rfl, small200 (by show 2 ≤ 200; decide), fun t ht => ?_⟩
    have := q t ht
    rw [pmin, pmax]
    exact this
def TrAt (H : Hp) (x : V) (e : Int × Int × Int) : Prop := ∃ t, x = V.ref t ∧ H t = some (.tup [.int e.1, .int e.2.1, .int e.2.2])
abbrev TrL (H : Hp) (xs : List V) (l : List (Int × Int × Int)) : Prop := All2 (TrAt H) xs l
theorem TrL.tups {H H' : Hp} {xs : List V} {l : List (Int × Int × Int)} (s : TupS H H') (h : TrL H xs l) : TrL H' xs l := All2.mono h fun _ _ ⟨t, e, ht⟩ => ⟨t, e, s _ _ ht⟩
abbrev earR (e : Int × Int × Int) : Int × Int := pr e.2.1 e.2.2
def sp_ears (K : PySem.W.Frag) : Sp := fun vs H Q _ => ∃ (n : Int) (r : Addr) (rs : List Int), vs = [.int n, .ref r] ∧ 3 ≤ n ∧ n ≤ 12 ∧ SqL K H r (rs.map V.int) ∧ n ≤ rs.length + 3 ∧ rowOk rs ∧
  ∀ H' p xs es, Same H H' → H p = none → H' p = some (.lst xs) → TrL H' xs es → (es.length : Int) = n - 3 → IsCut n (es.map earR) → Q (.ref p) H'
theorem rng_perm_step {n : Int} {E : List (Int × Int)} {L : List Int} {r : Int × Int} {L' : List Int} (h : ∀ R, CutL L R → CutL (rng n) (E ++ R)) (s : ∀ R, CutL L' R → CutL L (r :: R)) : ∀ R, CutL L' R → CutL (rng n) ((E ++ [r]) ++ R) := fun R hR => by
  rw [List.append_assoc]
  exact h _ (s R hR)
def earW (n : Int) (r p : Addr) (H : Hp) : Nat → L2.St → Hp → Prop := fun m σ H' => ∃ (l : Addr) (k : Option V) (xs : List V) (es : List (Int × Int × Int)) (L : List Int), σ = [some (.int n), some (.ref r), k, some (.ref l), some (.ref p)] ∧ Same H H' ∧ H' p = some (.lst xs) ∧ l ≠ p ∧ TrL H' xs es ∧ H' l = some (.lst (L.map V.int)) ∧ L.length = m ∧ 3 ≤ m ∧ ((es.length + m : Nat) : Int) = n ∧ L.Pairwise (· < ·) ∧ ∀ R, CutL L R → CutL (rng n) (es.map earR ++ R)
theorem int_atN {rs : List Int} {k : Nat} (h : k < rs.length) : ∃ v : Int, rs[k]? = some v ∧ atI (rs.map V.int) (k : Int) = some (.int v) := by
  refine ⟨rs[k], List.getElem?_eq_getElem h, atI_nat ?_⟩
  rw [List.getElem?_map, List.getElem?_eq_getElem h]
  rfl
theorem ear_prev {L : List Int} {k : Nat} (hk : k < L.length) : ∃ p : Int, (if k = 0 then L.getLast? else L[k - 1]?) = some p ∧ atI (L.map V.int) ((k : Int) - 1) = some (.int p) := by
  by_cases h : k = 0
  · subst h
    have hne : L ≠ [] := fun e => by rw [e] at hk; cases hk
    refine ⟨L.getLast hne, by rw [if_pos rfl, List.getLast?_eq_some_getLast hne], ?_⟩
    have e : L.map V.int = L.dropLast.map V.int ++ [V.int (L.getLast hne)] := by
      rw [← List.map_singleton, ← List.map_append, List.dropLast_concat_getLast hne]
    rw [e]
    exact atI_last _ _
  · obtain ⟨v, e1, e2⟩ := int_atN (rs := L) (k := k - 1) (by omega)
    refine ⟨v, by rw [if_neg h]; exact e1, ?_⟩
    rw [show (k : Int) - 1 = ((k - 1 : Nat) : Int) by omega]
    exact e2
theorem ok__law_ears (T : Env K mg) : FnOk P w K mg base CX0 1 T.a__law_ears T.fd__law_ears ["_law_n", "_law_row"] (sp_ears K) := by
  refine T.F__law_ears.ok sc__law_ears (fun vs H Q E h => ?_) (fun cdv A outer s H vs Q E hr h => ?_)
  · obtain ⟨n, r, rs, rfl, _⟩ := h
    rfl
  · obtain ⟨n, r, rs, rfl, h3, h12, hS, hl, hro, q⟩ := h
    refine ⟨_, (pss_cons (ps_setLc (i := 3) (own := [("_law_k", 2)]) (by rfl) sc__law_ears.nd rfl rfl (sw_true rfl rfl rfl (by decide +kernel)) (pi_range1 (by rfl) T.m_range (pa_cons (pv 0) pa_nil)) (blkOk_by (own := [("_law_k", 2)]) (N := ["_law_n", "_law_row", "_law_k", "_law_left", "_law_ears_here"]) (sc := defScope s__law_ears) (by decide +kernel)) (fun _ _ _ _ _ => (pg_name (i := 2) sc__law_ears.nd rfl (.inl rfl))) (fun _ _ _ _ _ => pts_nil) (fun _ _ _ _ _ => (pv 2)))
 (pss_cons (ps_set (i := 4) sc__law_ears.nd rfl (.inl rfl) (pe_lst pa_nil))
 (pss_cons (ps_while PassesOwn.never (pt_cmpR op_gt (pe_callB call_len_seq (by rfl) T.m_len (by decide +kernel) (pa_cons (pv 3) pa_nil)) pe_int (nomark _))
 (C8.pss_cut (ps_set (i := 2) sc__law_ears.nd rfl (.inl rfl) (pe_op op_mod (pe_ix ix_list (pv 1) (pe_callB call_len_seq (by rfl) T.m_len (by decide +kernel) (pa_cons (pv 4) pa_nil)) (fun _ _ => rfl)) (pe_callB call_len_seq (by rfl) T.m_len (by decide +kernel) (pa_cons (pv 3) pa_nil))))
 (pss_cons (ps_expr (pe_bm PySem.F.plainAttrs_list PySem.F.slot_list_append PySem.F.type_list_append mt_append (pv 4) (pa_cons (pe_tup (pa_cons (pe_ix ix_list (pv 3) (pv 2) (fun _ _ => rfl)) (pa_cons (pe_ix ix_list (pv 3) (pe_op op_sub (pv 2) pe_int) (fun _ _ => rfl)) (pa_cons (pe_ix ix_list (pv 3) (pe_op op_mod (pe_op op_add (pv 2) pe_int) (pe_callB call_len_seq (by rfl) T.m_len (by decide +kernel) (pa_cons (pv 3) pa_nil))) (fun _ _ => rfl)) pa_nil)))) pa_nil)))
 (pss_one (ps_set (i := 3) sc__law_ears.nd rfl (.inl rfl) (pe_op op_cat (pe_slice sl_list (pv 3) po_none (po_some (pv 2))) (pe_slice sl_list (pv 3) (po_some (pe_op op_add (pv 2) pe_int)) po_none)))))))
 (pss_one (ps_ret (pv 4)))))), ?_⟩
    refine ⟨_, rfl, n, rfl, by omega, by omega, fun D hD => ?_⟩
    refine lc_range (lo := 0) (n := n.toNat) (fun j H2 => Same H H2 ∧ H2 D = some (.lst (((rng n).take j).map V.int))) ⟨same_new hD, upd_same⟩ ?_ ?_
    · rintro j H2 hj ⟨s2, hd2⟩
      refine ⟨rfl, yes_read ?_⟩
      refine ⟨_, rfl, _, hd2, small200' ?_, same_put s2 hD, ?_⟩
      · rw [List.length_map, List.length_take]; omega
      · rw [upd_same, rng_more n j hj, List.map_append, Int.zero_add]; rfl
    rintro H2 ⟨s2, hd2⟩
    rw [List.take_of_length_le (by rw [rng_len]; exact Nat.le_refl _)] at hd2
    refine ⟨Nat.zero_le _, fun p hp => ?_⟩
    have s3 : Same H2 _ := same_new (o := .lst []) hp
    have hDp : D ≠ p := ne_of_none hd2 hp
    have hpH : H p = none := by
      cases e : H p with
      | none => rfl
      | some o => rw [s2 _ _ e] at hp; cases hp
    refine ⟨earW n r p H, ⟨n.toNat, D, _, [], [], rng n, rfl, s2.trans s3, upd_same, hDp, .nil, s3 _ _ hd2, rng_len n, by omega, by simp; omega, rng_sorted n, fun R hR => hR⟩, ?_⟩
    rintro m σ H' ⟨l, k, xs, es, L, rfl, s4, hpx, hlp, hE, hL, rfl, hm3, hcnt, hLs, hcut⟩
    have hLl : (L.map V.int).length = L.length := List.length_map _
    have hSL : SqL K H' l (L.map V.int) := .inl (.inl hL)
    refine ⟨_, rfl, _, _, rfl, .inl hSL, _, _, rfl, rfl, _, rfl, ite2 (fun hd => ?_) (fun hd => ?_)⟩
    · have h4 : 4 ≤ L.length := by
        have := of_decide_eq_true hd
        rw [hLl] at this
        omega
      refine ⟨fun σ' H2 => ∃ m', m' < L.length ∧ earW n r p H m' σ' H2, fun _ _ h => h, ?_⟩
      have hxl := hE.length
      have hSR : SqL K H' r (rs.map V.int) := s4.seq hS
      obtain ⟨v0, mv0, av0⟩ := int_at (rs := rs) (k := es.length) (by omega)
      have b0 := hro v0 mv0
      refine ⟨fun σ' H2 => H2 = H' ∧ ∃ j : Nat, j < L.length ∧ σ' = [some (.int n), some (.ref r), some (.int (j : Int)), some (.ref l), some (.ref p)], ?_, ?_⟩
      · refine ⟨_, rfl, _, rfl, _, _, rfl, .inl (.inl (.inl hpx)), r, _, _, V.int v0, rfl, rfl, hSR, (by rw [hxl]; exact av0), _, rfl, _, _, rfl, .inl hSL, _, _, rfl, rfl, (by show (0 : Int) < _; omega), ?_⟩
        rw [hLl]
        refine ⟨rfl, (v0 % (L.length : Int)).toNat, ?_, ?_⟩
        · have k0 := Int.emod_nonneg v0 (show (L.length : Int) ≠ 0 by omega)
          have k1 := Int.emod_lt_of_pos v0 (show (0 : Int) < (L.length : Int) by omega)
          omega
        · rw [Int.toNat_of_nonneg (Int.emod_nonneg v0 (show (L.length : Int) ≠ 0 by omega))]; rfl
      rintro _ H' ⟨rfl, j, hjL, rfl⟩
      obtain ⟨v, ev, av⟩ := int_atN hjL
      obtain ⟨pv', ep, ap⟩ := ear_prev hjL
      obtain ⟨q', eq, aq⟩ := int_atN (rs := L) (k := (j + 1) % L.length) (Nat.mod_lt _ (by omega))
      have aq' : atI (L.map V.int) (((j : Int) + 1) % (L.length : Int)) = some (.int q') := by
        have e1 : ((j + 1 : Nat) : Int) = (j : Int) + 1 := by omega
        rw [← e1, ← Int.natCast_emod]
        exact aq
      have stp := fun R hR => ear_step (R := R) hLs h4 ev ep eq hR
      refine ⟨_, rfl, .inl ⟨rfl, _, .inl (.inl hpx)⟩, ?_⟩
      refine ⟨_, rfl, _, rfl, l, _, _, _, rfl, rfl, hSL, av, ?_⟩
      refine ⟨_, rfl, _, rfl, _, _, rfl, rfl, l, _, _, _, rfl, rfl, hSL, ap, ?_⟩
      refine ⟨_, rfl, _, rfl, _, _, rfl, rfl, _, rfl, _, _, rfl, .inl hSL, _, _, rfl, rfl, (by show (0 : Int) < _; rw [hLl]; omega), l, _, _, _, rfl, rfl, hSL, (by rw [hLl]; exact aq'), ?_⟩
      refine ⟨small200 (by show 3 ≤ 200; decide), fun t ht => ?_⟩
      have s5 : Same H' _ := same_new (o := .tup [.int v, .int pv', .int q']) ht
      have et : (upd H' t (.tup [.int v, .int pv', .int q'])) t = some (.tup [.int v, .int pv', .int q']) := upd_same
      generalize upd H' t (.tup [.int v, .int pv', .int q']) = H5 at *
      refine ⟨p, xs, _, rfl, rfl, s5 _ _ hpx, small200' (by omega), ?_⟩
      have hE5 : TrL (upd H5 p (.lst (xs ++ [.ref t]))) (xs ++ [.ref t]) (es ++ [(v, pv', q')]) := by
        have ts := TupS.put (o := .lst (xs ++ [.ref t])) (s5 _ _ hpx)
        exact (hE.tups ((TupS.of s5).trans ts)).app (.one ⟨t, rfl, ts _ _ et⟩)
      have hL5 : (upd H5 p (.lst (xs ++ [.ref t]))) l = some (.lst (L.map V.int)) := by
        rw [upd_ne hlp]; exact s5 _ _ hL
      have s6 : Same H (upd H5 p (.lst (xs ++ [.ref t]))) := fun b o e => by
        rw [upd_ne (ne_of_none e hpH)]
        exact s5 _ _ (s4 _ _ e)
      have hp6 : (upd H5 p (.lst (xs ++ [.ref t]))) p = some (.lst (xs ++ [.ref t])) := upd_same
      generalize upd H5 p (.lst (xs ++ [.ref t])) = H6 at *
      refine ⟨_, rfl, _, rfl, _, rfl, l, _, rfl, .inl (.inl hL5), fun c1 g1 => ?_⟩
      have u1 : Same H6 _ := same_new (o := .lst (cutV (L.map V.int) none (some (j : Int)))) g1
      have e1 : (upd H6 c1 (.lst (cutV (L.map V.int) none (some (j : Int))))) c1 = some (.lst ((L.map V.int).take j)) := by rw [upd_same, cut_take]
      generalize upd H6 c1 (.lst (cutV (L.map V.int) none (some (j : Int)))) = H7 at *
      refine ⟨_, rfl, _, rfl, _, _, rfl, rfl, _, rfl, l, _, rfl, .inl (.inl (u1 _ _ hL5)), fun c2 g2 => ?_⟩
      have u2 : Same H7 _ := same_new (o := .lst (cutV (L.map V.int) (some ((j : Int) + 1)) none)) g2
      have e2 : (upd H7 c2 (.lst (cutV (L.map V.int) (some ((j : Int) + 1)) none))) c2 = some (.lst ((L.map V.int).drop (j + 1))) := by
        rw [upd_same, show (j : Int) + 1 = ((j + 1 : Nat) : Int) by omega, cut_drop]
      generalize upd H7 c2 (.lst (cutV (L.map V.int) (some ((j : Int) + 1)) none)) = H8 at *
      have hlen : ((L.take j ++ L.drop (j + 1))).length = L.length - 1 := by
        rw [List.length_append, List.length_take, List.length_drop]; omega
      refine ⟨c1, c2, _, _, rfl, rfl, u2 _ _ e1, e2, small200 ?_, fun c3 g3 => ?_⟩
      · rw [← List.map_take, ← List.map_drop, ← List.length_append, ← List.map_append, List.length_map, hlen]
        omega
      have u3 : Same H8 _ := same_new (o := .lst ((L.map V.int).take j ++ (L.map V.int).drop (j + 1))) g3
      refine ⟨L.length - 1, by omega, c3, _, _, _, L.take j ++ L.drop (j + 1), rfl, ((s6.trans u1).trans u2).trans u3, u3 _ _ (u2 _ _ (u1 _ _ hp6)), (ne_of_none (u2 _ _ (u1 _ _ hp6)) g3).symm, hE5.tups (TupS.of ((u1.trans u2).trans u3)), ?_, hlen, by omega, ?_, ?_, ?_⟩
      · rw [upd_same, List.map_append, List.map_take, List.map_drop]
      · rw [List.length_append, List.length_singleton]; omega
      · exact hLs.sublist (by
          have h := List.Sublist.append (List.Sublist.refl (L.take j)) (List.drop_sublist_drop_left L (show j ≤ j + 1 by omega))
          rw [List.take_append_drop] at h
          exact h)
      · rw [List.map_append]
        exact rng_perm_step hcut stp
    · have hL3 : L.length = 3 := by
        have := nd hd
        rw [hLl] at this
        omega
      obtain ⟨a, b, c, rfl⟩ : ∃ a b c, L = [a, b, c] := by
        match L, hL3 with
        | [a, b, c], _ => exact ⟨a, b, c, rfl⟩
      have c1 := (List.pairwise_cons.mp hLs).1 b (by simp)
      have c2 := (List.pairwise_cons.mp (List.pairwise_cons.mp hLs).2).1 c (by simp)
      have c3 := hcut [] (cut3 c1 c2)
      rw [List.append_nil] at c3
      exact ⟨_, rfl, q H' p xs es s4 hpH hpx hE (by omega) (isCut_of h3 c3)⟩


/-! ### the ropes of a drawn cutting, sides, ties -/
theorem sp_new {H H' : Hp} {q : Addr} {o : HO} {H2 : Hp} (s : Same H H2) (h : H2 q = none) : Same H (upd H2 q o) := s.trans (same_new h)
theorem none_back {H H' : Hp} {q : Addr} (s : Same H H') (h : H' q = none) : H q = none := by
  cases e : H q with
  | none => rfl
  | some o => rw [s _ _ e] at h; cases h
def sp_ropes (K : PySem.W.Frag) : Sp := fun vs H Q _ => ∃ (p : Addr) (xs : List V) (es : List (Int × Int × Int)), vs = [.ref p] ∧ H p = some (.lst xs) ∧ TrL H xs es ∧ es.length ≤ 100 ∧
  ∀ H' q ys, Same H H' → H q = none → H' q = some (.lst ys) → PrL K H' ys (sort2 (es.map earR)) → Q (.ref q) H'
theorem ok__law_ropes (T : Env K mg) : FnOk P w K mg base CX0 2 T.a__law_ropes T.fd__law_ropes ["_law_ears_here"] (sp_ropes K) := by
  refine T.F__law_ropes.ok sc__law_ropes (fun vs H Q E h => ?_) (fun cdv A outer s H vs Q E hr h => ?_)
  · obtain ⟨p, xs, es, rfl, _⟩ := h
    rfl
  · obtain ⟨p, xs, es, rfl, hp, hE, hl, q⟩ := h
    refine ⟨_, (pss_one (ps_ret (pe_callB cr_sort2 (by rfl) T.m_sorted (by decide +kernel) (pa_cons (pe_lc (own := [("_law_ear", 1)]) (by rfl) sc__law_ropes.nd (pi_list (pv 0)) (blkOk_by (own := [("_law_ear", 1)]) (N := ["_law_ears_here", "_law_ear"]) (sc := defScope s__law_ropes) (by decide +kernel)) (fun _ _ _ _ _ => (pg_name (i := 1) sc__law_ropes.nd rfl (.inl rfl))) (fun _ _ _ _ _ => pts_nil) (fun _ _ _ _ _ => (pe_call (ok__law_pair T) (hr.mono (by decide)) (by rfl) T.g__law_pair T.F__law_pair.kp T.b__law_pair .nil pass0 (pa_cons (pe_ix (r := rIxT K) ix_tup (pv 1) pe_int (fun _ _ => rfl)) (pa_cons (pe_ix (r := rIxT K) ix_tup (pv 1) pe_int (fun _ _ => rfl)) pa_nil))))) pa_nil)))), ?_⟩
    have hxl := hE.length
    refine ⟨_, rfl, p, rfl, ⟨_, .inl (.inl hp)⟩, fun D hD => ?_⟩
    refine lc_list (K := K) (a := p) (xs := xs) (fun i H' => ∃ zs, Same H H' ∧ H' D = some (.lst zs) ∧ PrL K H' zs ((es.map earR).take i)) ⟨[], same_new hD, upd_same, by rw [List.take_zero]; exact .nil⟩ ?_ ?_ ?_
    · rintro i H' _ ⟨zs, s2, _, _⟩
      exact .inl (.inl (s2 _ _ hp))
    · rintro i x H' hi ⟨zs, s2, hz, hZ⟩
      obtain ⟨e, he, t, rfl, ht⟩ := hE.at hi
      have hT : SqT K H' t [.int e.1, .int e.2.1, .int e.2.2] := .inl (.inl (s2 _ _ ht))
      refine ⟨rfl, yes_read ?_⟩
      refine ⟨_, rfl, t, _, _, _, rfl, rfl, hT, atI_nat (j := 1) rfl, _, rfl, t, _, _, _, rfl, rfl, hT, atI_nat (j := 2) rfl, e.2.1, e.2.2, rfl, fun u hu => ?_⟩
      have s3 : Same H' _ := same_new (o := .tup [.int (pr e.2.1 e.2.2).1, .int (pr e.2.1 e.2.2).2]) hu
      have hu2 : (upd H' u (.tup [.int (pr e.2.1 e.2.2).1, .int (pr e.2.1 e.2.2).2])) u = some (.tup [.int (pr e.2.1 e.2.2).1, .int (pr e.2.1 e.2.2).2]) := upd_same
      generalize upd H' u (.tup [.int (pr e.2.1 e.2.2).1, .int (pr e.2.1 e.2.2).2]) = H3 at *
      have hzl := hZ.length
      rw [List.length_take, List.length_map] at hzl
      refine ⟨zs, s3 _ _ hz, small200' (by omega), zs ++ [.ref u], ?_, upd_same, ?_⟩
      · intro b o eb
        rw [upd_ne (ne_of_none eb hD)]
        exact s3 _ _ (s2 _ _ eb)
      · have em : (es.map earR)[i]? = some (earR e) := by rw [List.getElem?_map, he]; rfl
        rw [take_more em]
        have ts := TupS.put (o := .lst (zs ++ [.ref u])) (s3 _ _ hz)
        exact (hZ.tups ((TupS.of s3).trans ts)).app (.one ⟨u, rfl, ts _ _ hu2⟩)
    · rintro H' ⟨zs, s2, hz, hZ⟩
      rw [List.take_of_length_le (by rw [List.length_map]; omega)] at hZ
      refine ⟨D, zs, _, rfl, .inl (.inl hz), hZ, fun ys u hY hu => ?_⟩
      have s3 : Same H' _ := same_new (o := .lst ys) hu
      exact q _ u ys (s2.trans s3) (none_back s2 hu) upd_same (hY.mono s3)
def sp_sides (K : PySem.W.Frag) : Sp := fun vs H Q _ => ∃ n : Int, vs = [.int n] ∧ 3 ≤ n ∧ n ≤ 12 ∧ ∀ H' q ys, Same H H' → H q = none → H' q = some (.lst ys) → PrL K H' ys (sidesL n) → Q (.ref q) H'
theorem sidesL_len {n : Int} (h : 3 ≤ n) : (sidesL n).length = n.toNat := by
  unfold sidesL
  rw [List.length_append, List.length_map, rng_len, List.length_singleton]
  omega
def sp_ties (K : PySem.W.Frag) : Sp := fun vs H Q _ => ∃ (n : Int) (c : Addr) (xs : List V) (l : List (Int × Int)), vs = [.int n, .ref c] ∧ 3 ≤ n ∧ n ≤ 12 ∧ H c = some (.lst xs) ∧ PrL K H xs l ∧ l.length ≤ 100 ∧
  ∀ H' q ys, Same H H' → H q = none → H' q = some (.lst ys) → PrL K H' ys (sort2 (sidesL n ++ l)) → Q (.ref q) H'

theorem pi_listK {X : Cx} {tg l : Expr} {tl : TE} (hK : X.K = K) (hl : PE X l tl) : PI X tg l (iList K tl) := by
  subst hK
  exact pi_list hl
theorem pg_tupK {X : Cx} {pos : Pos} {es : List Expr} {k : Nat} {t : TGs} {n : Nat} (hK : X.K = K) (hc : X.calm = true) (h : PGs X es t)
    (hn : (assignEach es X.env).length = n := by rfl) (hst : (assignEach es X.env).findIdx? (·.1) = none := by rfl) : PG X (.Tuple es k pos) (gTup K n t) := by
  subst hK
  exact pg_tup hc h hn hst

/-! ### len(set(xs)), xs a list of pairs -/
theorem perm_of_sub {α : Type} [BEq α] [LawfulBEq α] : ∀ (l m : List α), l.Nodup → (∀ x ∈ l, x ∈ m) → m.length ≤ l.length → m.Perm l
  | [], m, _, _, h => by
    have : m = [] := List.length_eq_zero_iff.mp (Nat.le_zero.mp h)
    rw [this]
  | x :: l, m, hn, hs, h => by
    have hx : x ∈ m := hs x (by simp)
    have hnx := List.nodup_cons.mp hn
    have ih := perm_of_sub l (m.erase x) hnx.2 (fun y hy => (List.mem_erase_of_ne (fun e => hnx.1 (by rw [e] at hy; exact hy))).mpr (hs y (List.mem_cons_of_mem _ hy))) (by
      rw [List.length_erase_of_mem hx]
      rw [List.length_cons] at h
      omega)
    exact (List.perm_cons_erase hx).trans (ih.cons x)
theorem pl_keys {H : Hp} : ∀ {xs : List V} {l : List (Int × Int)}, PrL K H xs l → ∃ ks : List (Addr × List Int), xs = ks.map (fun p => V.ref p.1) ∧ ks.map (·.2) = l.map (fun p => [p.1, p.2]) ∧ ∀ p ∈ ks, SqT K H p.1 (p.2.map V.int)
  | _, _, .nil => ⟨[], rfl, rfl, fun _ h => by cases h⟩
  | _, _, .cons ⟨t, e, ht⟩ r => by
    obtain ⟨ks, h1, h2, h3⟩ := pl_keys r
    subst e
    refine ⟨(t, _) :: ks, by rw [h1]; rfl, by rw [List.map_cons, List.map_cons, h2], fun p hp => ?_⟩
    rcases List.mem_cons.mp hp with e | e
    · rw [e]; exact .inl (.inl ht)
    · exact h3 p e
theorem two_nodup {l : List (Int × Int)} : (l.map fun p => [p.1, p.2]).Nodup ↔ l.Nodup := by
  constructor
  · exact fun h => List.Pairwise.of_map _ (fun _ _ hne e => hne (by rw [e])) h
  · exact fun h => List.pairwise_map.mpr (h.imp fun {a b} (hne : a ≠ b) e => hne (Prod.ext (List.cons.inj e).1 (List.cons.inj (List.cons.inj e).2).1))
def tLenSet2 (K : PySem.W.Frag) (ta : TE) : TE := fun σ H Q => ta σ H fun x H1 => ∃ (l : Addr) (xs : List V) (ps : List (Int × Int)), x = V.ref l ∧ SqL K H1 l xs ∧ PrL K H1 xs ps ∧ ps.length < 64 ∧ ∀ m : Nat, (m = ps.length ↔ ps.Nodup) → Q (.int m) H1
section
variable {X : Cx}
theorem pe_lenSet2 {a : Expr} {ta : TE} {p p2 q pos : Pos} (hc : X.calm = true) (hu : X.A.units + 64 < cLine) (hg : Gl X "len") (hm : X.mg "len" = none) (hg2 : Gl X "set") (hm2 : X.mg "set" = none) (ha : PE X a ta)
    (na : starEach [a] X.env = (false, eval a X.env) :: starEach [] X.env := by rfl) : PE X (.Call (.Name "len" p) [.Call (.Name "set" p2) [a] [] q] [] pos) (tLenSet2 X.K ta) := by
  refine ⟨fun pins s σ H Q I h => ?_⟩
  refine Call_ (ld_blt I hg hm PySem.boot_len (callWith_builtin1 (args_cons (Call_ (ld_blt I hg2 hm2 boot_set (callWith_type1 (args_cons (thn (ha.run pins s σ H _ I h) fun v s1 ⟨x, H1, I1, r1, q1⟩ => args_nil ?_) na) na))) rfl) rfl rfl))
  obtain ⟨l, xs, ps, rfl, hq, hP, hl, q1⟩ := q1
  cases r1
  obtain ⟨ks, rfl, hk2, hk3⟩ := pl_keys hP
  obtain ⟨its, rv, pl, hz⟩ := I1.list hq
  have hkl : ks.length = ps.length := by
    have := congrArg List.length hk2
    rwa [List.length_map, List.length_map] at this
  refine L2.call_set_tups (P := X.prog) (w := X.w) ks (I1.ok.hd hc) pl.isList (by simpa using L2.refs_of_vals rv) (fun p hp => I1.isT (hk3 p hp)) (by omega) (by omega) fun h' tk L es ep t R g k => args_nil ?_
  have I2 : Inv X pins σ H1 { s1 with heap := h', toks := tk } := I1.kept k
  obtain ⟨o, ho, hex, hd⟩ := R.ob
  have hsz : es.size = L.length := by
    have := congrArg List.length R.rows
    rw [Array.length_toList] at this
    rw [this]
    unfold L2.rowsOf
    rw [List.length_map]
  have hfew := R.few
  have key : L.length = ps.length ↔ ps.Nodup := by
    have sub : ∀ x ∈ L.map (·.2), x ∈ ks.map (·.2) := fun x hx => by
      obtain ⟨y, hy, rfl⟩ := List.mem_map.mp hx
      exact List.mem_map.mpr ⟨y, List.mem_of_mem_take (g.sub y hy), rfl⟩
    have sup : ∀ x ∈ ks.map (·.2), x ∈ L.map (·.2) := fun x hx => by
      obtain ⟨y, hy, rfl⟩ := List.mem_map.mp hx
      exact g.all y (by rw [List.take_length]; exact hy)
    rw [← two_nodup, ← hk2]
    constructor
    · intro e
      have pm := perm_of_sub (L.map (·.2)) (ks.map (·.2)) R.nd sub (by rw [List.length_map, List.length_map]; omega)
      exact pm.nodup_iff.mpr R.nd
    · intro hn
      have pm := (List.perm_ext_iff_of_nodup R.nd hn).mpr fun x => ⟨sub x, sup x⟩
      have := pm.length_eq
      rw [List.length_map, List.length_map] at this
      omega
  have hfit : t.fits es.size = true := L2.SetTR.fits (s := { s1 with heap := h', toks := tk }) R
  refine call_len_set ho hex hd hfit (by omega) ⟨.int L.length, H1, I2.tok _, ⟨_, by rw [hsz]⟩, q1 L.length key⟩
end

/-! ### two pairs cross -/
def crossI (p q : Int × Int) : Bool := if q.1 = p.1 ∨ q.1 = p.2 ∨ q.2 = p.1 ∨ q.2 = p.2 then false else
  decide ((decide (min p.1 p.2 < q.1 ∧ q.1 < max p.1 p.2)) ≠ (decide (min p.1 p.2 < q.2 ∧ q.2 < max p.1 p.2)))
theorem dec_ne (A B : Prop) [Decidable A] [Decidable B] : (decide A ≠ decide B) ↔ ¬ (A ↔ B) := by
  by_cases h1 : A <;> by_cases h2 : B <;> simp [h1, h2]
theorem crossI_symm {p q : Int × Int} (h1 : p.1 ≠ p.2) (h2 : q.1 ≠ q.2) : crossI p q = crossI q p := by
  obtain ⟨a, b⟩ := p
  obtain ⟨c, d⟩ := q
  unfold crossI
  dsimp only at *
  by_cases e : c = a ∨ c = b ∨ d = a ∨ d = b
  · rw [if_pos e, if_pos (by omega)]
  · rw [if_neg e, if_neg (by omega), decide_eq_decide, dec_ne, dec_ne]
    omega
def sp_cross (K : PySem.W.Frag) : Sp := fun vs H Q _ => ∃ (x y : V) (p q : Int × Int), vs = [x, y] ∧ PrAt K H x p ∧ PrAt K H y q ∧ Q (.bl (crossI p q)) H
def sp_crosses (K : PySem.W.Frag) : Sp := fun vs H Q _ => ∃ (x y : V) (p q : Int × Int), vs = [x, y] ∧ PrAt K H x p ∧ PrAt K H y q ∧ Q (.bl (crossI q p)) H
theorem inV2 (i a b : Int) : inV (V.int i) [V.int a, V.int b] = decide (i = a ∨ i = b) := by
  show ((a == i) || ((b == i) || false)) = _
  have e : ∀ x y : Int, (x == y) = decide (y = x) := fun x y => by
    by_cases h : y = x
    · rw [decide_eq_true h, h]; exact beq_self_eq_true x
    · rw [decide_eq_false h]; exact beq_eq_false_iff_ne.mpr fun z => h z.symm
  rw [Bool.or_false, e, e, ← Bool.decide_or]
/-- low < i < high, i asked once -/
def rChainI (lo hi i : Int) : Bool := decide (lo < i ∧ i < hi)

theorem cross_fin {lo hi i j : Int} : (!decide (V.bl (decide (lo < i ∧ i < hi)) = V.bl (decide (lo < j ∧ j < hi)))) = decide ((decide (lo < i ∧ i < hi)) ≠ (decide (lo < j ∧ j < hi))) := by
  rw [← decide_not, decide_eq_decide]
  exact ⟨fun h e => h (congrArg V.bl e), fun h e => h (V.bl.inj e)⟩
theorem crossI_t {p q : Int × Int} (h : q.1 = p.1 ∨ q.1 = p.2 ∨ q.2 = p.1 ∨ q.2 = p.2) : crossI p q = false := by unfold crossI; rw [if_pos h]
theorem crossI_f {p q : Int × Int} (h : ¬ (q.1 = p.1 ∨ q.1 = p.2 ∨ q.2 = p.1 ∨ q.2 = p.2)) : crossI p q = (!decide (V.bl (decide (min p.1 p.2 < q.1 ∧ q.1 < max p.1 p.2)) = V.bl (decide (min p.1 p.2 < q.2 ∧ q.2 < max p.1 p.2)))) := by
  unfold crossI
  rw [cross_fin, if_neg h]
theorem ok__law_cross (T : Env K mg) : FnOk P w K mg base CX0 1 T.a__law_cross T.fd__law_cross ["_law_one", "_law_other"] (sp_cross K) := by
  refine T.F__law_cross.ok sc__law_cross (fun vs H Q E h => ?_) (fun cdv A outer s H vs Q E hr h => ?_)
  · obtain ⟨x, y, p, q, rfl, _⟩ := h
    rfl
  · obtain ⟨x, y, p, q, rfl, hp, hq, k⟩ := h
    refine ⟨_, (pss_cons (ps_for PassesOwn.never rfl (pi_tup (pv 1)) (pg_name (i := 2) sc__law_cross.nd rfl (.inl rfl))
 (pss_one (ps_if (pt_cmpR op_in_seq (pv 2) (pv 0) (by rfl))
 (pss_one (ps_ret pe_bl))
 pss_nil)))
 (pss_cons (ps_set (i := 3) sc__law_cross.nd rfl (.inl rfl) (pe_callB (call_min2 rfl) (by rfl) T.m_min (by decide +kernel) (pa_cons (pe_ix ix_tup (pv 0) pe_int (fun _ _ => rfl)) (pa_cons (pe_ix ix_tup (pv 0) pe_int (fun _ _ => rfl)) pa_nil))))
 (pss_cons (ps_set (i := 4) sc__law_cross.nd rfl (.inl rfl) (pe_callB (call_max2 rfl) (by rfl) T.m_max (by decide +kernel) (pa_cons (pe_ix ix_tup (pv 0) pe_int (fun _ _ => rfl)) (pa_cons (pe_ix ix_tup (pv 0) pe_int (fun _ _ => rfl)) pa_nil))))
 (pss_one (ps_ret (pe_cmpR op_ne (pe_chain op_lt op_lt (pv 3) (pe_ix ix_tup (pv 1) pe_int (fun _ _ => rfl)) (pv 4)) (pe_chain op_lt op_lt (pv 3) (pe_ix ix_tup (pv 1) pe_int (fun _ _ => rfl)) (pv 4)) (nomark _))))))), ?_⟩
    obtain ⟨t, rfl, ht⟩ := hp
    obtain ⟨u, rfl, hu⟩ := hq
    have sT : SqT K H t [.int p.1, .int p.2] := .inl (.inl ht)
    have sU : SqT K H u [.int q.1, .int q.2] := .inl (.inl hu)
    obtain ⟨a, b⟩ := p
    obtain ⟨c, d⟩ := q
    dsimp only at *
    refine ⟨_, rfl, u, rfl, ⟨_, sU⟩, for_tup (K := K) (a := u) (xs := [.int c, .int d]) (fun i σ H' => H' = H ∧ (∃ z, σ = [some (.ref t), some (.ref u), z, none, none]) ∧ (0 < i → ¬ (c = a ∨ c = b)) ∧ (1 < i → ¬ (d = a ∨ d = b))) ⟨rfl, ⟨_, rfl⟩, fun h => absurd h (by decide), fun h => absurd h (by decide)⟩ ?_ ?_ ?_⟩
    · rintro i σ H' _ ⟨rfl, _⟩
      exact sU
    · rintro i x σ H' hx ⟨rfl, ⟨z, rfl⟩, h1, h2⟩
      match i, hx with
      | 0, hx =>
        obtain rfl := Option.some.inj hx
        refine ⟨_, rfl, _, rfl, t, _, rfl, .inr sT, rfl, rfl, _, rfl, ite2 (fun hd => ?_) (fun hd => ?_)⟩
        · have hd : inV (V.int c) [V.int a, V.int b] = true := hd
          rw [inV2] at hd
          have e : crossI (a, b) (c, d) = false := by
            unfold crossI
            have := of_decide_eq_true hd
            rw [if_pos (by dsimp only; omega)]
          rw [← e]
          exact k
        · have hd : ¬ inV (V.int c) [V.int a, V.int b] = true := hd
          rw [inV2] at hd
          exact ⟨rfl, ⟨_, rfl⟩, fun _ => nd hd, fun h => absurd h (by decide)⟩
      | 1, hx =>
        obtain rfl := Option.some.inj hx
        refine ⟨_, rfl, _, rfl, t, _, rfl, .inr sT, rfl, rfl, _, rfl, ite2 (fun hd => ?_) (fun hd => ?_)⟩
        · have hd : inV (V.int d) [V.int a, V.int b] = true := hd
          rw [inV2] at hd
          have e : crossI (a, b) (c, d) = false := by
            unfold crossI
            have := of_decide_eq_true hd
            rw [if_pos (by dsimp only; omega)]
          rw [← e]
          exact k
        · have hd : ¬ inV (V.int d) [V.int a, V.int b] = true := hd
          rw [inV2] at hd
          exact ⟨rfl, ⟨_, rfl⟩, fun _ => h1 (by decide), fun _ => nd hd⟩
      | i + 2, hx => cases hx
    · rintro σ H' ⟨rfl, ⟨z, rfl⟩, h1, h2⟩
      have h1 := h1 (by show 0 < 2; decide)
      have h2 := h2 (by show 1 < 2; decide)
      have k : Q (V.bl (!decide (V.bl (decide (min a b < c ∧ c < max a b)) = V.bl (decide (min a b < d ∧ d < max a b))))) H' := by
        rw [cross_fin]
        unfold crossI at k
        rw [if_neg (by dsimp only; omega)] at k
        exact k
      refine ⟨_, rfl, t, _, _, _, rfl, rfl, sT, atI_nat (j := 0) rfl, _, rfl, t, _, _, _, rfl, rfl, sT, atI_nat (j := 1) rfl, _, _, rfl, ?_⟩
      refine ⟨_, rfl, t, _, _, _, rfl, rfl, sT, atI_nat (j := 0) rfl, _, rfl, t, _, _, _, rfl, rfl, sT, atI_nat (j := 1) rfl, _, _, rfl, ?_⟩
      rw [pmin, pmax]
      refine ⟨_, rfl, _, rfl, u, _, _, _, rfl, rfl, sU, atI_nat (j := 0) rfl, _, _, rfl, rfl, _, rfl, ?_⟩
      refine ite2 (fun g => ?_) (fun g => ?_)
      · rw [and_t g] at k
        refine ⟨_, rfl, _, _, rfl, rfl, _, rfl, _, rfl, u, _, _, _, rfl, rfl, sU, atI_nat (j := 1) rfl, _, _, rfl, rfl, _, rfl, ite2 (fun f => ?_) (fun f => ?_)⟩
        · rw [and_t f] at k
          exact ⟨_, rfl, _, _, rfl, rfl, rfl, k⟩
        · rw [and_f f] at k
          exact ⟨rfl, k⟩
      · rw [and_f g] at k
        refine ⟨_, rfl, _, rfl, u, _, _, _, rfl, rfl, sU, atI_nat (j := 1) rfl, _, _, rfl, rfl, _, rfl, ite2 (fun f => ?_) (fun f => ?_)⟩
        · rw [and_t f] at k
          exact ⟨_, rfl, _, _, rfl, rfl, rfl, k⟩
        · rw [and_f f] at k
          exact ⟨rfl, k⟩

theorem ok_crosses (T : Env K mg) : FnOk P w K mg base CX0 1 T.a_crosses T.fd_crosses ["one", "other"] (sp_crosses K) := by
  refine T.F_crosses.ok sc_crosses (fun vs H Q E h => ?_) (fun cdv A outer s H vs Q E hr h => ?_)
  · obtain ⟨x, y, p, q, rfl, _⟩ := h
    rfl
  · obtain ⟨x, y, p, q, rfl, hp, hq, k⟩ := h
    refine ⟨_, (pss_cons (ps_asg (pv 0) (pg_tup rfl (pgs_cons (pg_name (i := 2) sc_crosses.nd rfl (.inl rfl)) (pgs_cons (pg_name (i := 3) sc_crosses.nd rfl (.inl rfl)) pgs_nil))))
 (pss_cons (ps_if (PW.pt (pw_or (pt_cmpR op_in_seq (pv 2) (pv 1) (by rfl)) (pw_or1 (pt_cmpR op_in_seq (pv 3) (pv 1) (by rfl)))))
 (pss_one (ps_ret pe_bl))
 pss_nil)
 (pss_cons (ps_par (i := 4) (j := 5) (by rfl) sc_crosses.nd rfl rfl (by decide) rfl rfl (pa_cons (pe_callB (cr_min2T rfl (by exact hr.units)) (by rfl) T.m_min (by decide +kernel) (pa_cons (pv 1) pa_nil)) (pa_cons (pe_callB (cr_max2T rfl (by exact hr.units)) (by rfl) T.m_max (by decide +kernel) (pa_cons (pv 1) pa_nil)) pa_nil)) (by rfl))
 (pss_one (ps_ret (pe_cmpR op_ne (pe_chain op_lt op_lt (pv 4) (pv 2) (pv 5)) (pe_chain op_lt op_lt (pv 4) (pv 3) (pv 5)) (nomark _))))))), ?_⟩
    obtain ⟨t, rfl, ht⟩ := hp
    obtain ⟨u, rfl, hu⟩ := hq
    have sT : SqT K H t [.int p.1, .int p.2] := .inl (.inl ht)
    have sU : SqT K H u [.int q.1, .int q.2] := .inl (.inl hu)
    obtain ⟨a, b⟩ := p
    obtain ⟨c, d⟩ := q
    dsimp only at *
    refine ⟨_, rfl, t, _, rfl, sT, rfl, _, _, rfl, _, _, rfl, rfl, ?_⟩
    refine ⟨_, rfl, _, rfl, u, _, rfl, .inr sU, rfl, rfl, _, rfl, ?_⟩
    show if inV (V.int a) [V.int c, V.int d] = true then _ else _
    rw [inV2]
    refine ite2 (fun g => ?_) (fun g => ?_)
    · have := of_decide_eq_true g
      rw [crossI_t (by dsimp only; omega)] at k
      exact k
    refine ⟨_, rfl, _, rfl, u, _, rfl, .inr sU, rfl, rfl, _, rfl, ?_⟩
    show if inV (V.int b) [V.int c, V.int d] = true then _ else _
    rw [inV2]
    refine ite2 (fun f => ?_) (fun f => ?_)
    · have := of_decide_eq_true f
      rw [crossI_t (by dsimp only; omega)] at k
      exact k
    have g := nd g
    have f := nd f
    rw [crossI_f (by dsimp only; omega)] at k
    dsimp only at k
    refine ⟨_, rfl, u, _, _, rfl, sU, _, rfl, u, _, _, rfl, sU, _, _, rfl, ?_⟩
    refine ⟨_, rfl, _, rfl, _, _, rfl, rfl, _, rfl, ite2 (fun g => ?_) (fun g => ?_)⟩
    · rw [and_t g] at k
      refine ⟨_, rfl, _, _, rfl, rfl, _, rfl, _, rfl, _, _, rfl, rfl, _, rfl, ite2 (fun f => ?_) (fun f => ?_)⟩
      · rw [and_t f] at k
        exact ⟨_, rfl, _, _, rfl, rfl, rfl, k⟩
      · rw [and_f f] at k
        exact ⟨rfl, k⟩
    · rw [and_f g] at k
      refine ⟨_, rfl, _, rfl, _, _, rfl, rfl, _, rfl, ite2 (fun f => ?_) (fun f => ?_)⟩
      · rw [and_t f] at k
        exact ⟨_, rfl, _, _, rfl, rfl, rfl, k⟩
      · rw [and_f f] at k
        exact ⟨rfl, k⟩

theorem lc_cb {vs0 : List V} {L : List (List Nat)} {g : TG} {tt : TT} {te : TE} {vs : List Nat} {σ : L2.St} {H1 : Hp} {D : Addr} {Qd : Hp → Prop} (Pv : Nat → Hp → Prop) (h0 : Pv 0 (upd H1 D (.lst [])))
    (hs : ∀ i ix H T, L[i]? = some ix → Pv i H → H T = none → g (.ref T) (wipe σ vs) (upd H T (.tup (Cb.pickV vs0 ix))) fun σ2 H2 => wipe σ2 vs = wipe σ vs ∧ tt σ2 H2 fun b H3 =>
      if b = true then te σ2 H3 fun y H4 => ∃ acc, H4 D = some (.lst acc) ∧ acc.length < sizeLine ∧ Pv (i + 1) (upd H4 D (.lst (acc ++ [y]))) else Pv (i + 1) H3) (hd : ∀ H, Pv L.length H → Qd H) :
    ∃ W : Nat → Nat → Hp → Prop, (∃ m, W 0 m (upd H1 D (.lst []))) ∧ ∀ i m H, W i m H →
      ((Cb.ItC vs0 L).stop i H ∧ Qd H) ∨ ((Cb.ItC vs0 L).go i H ∧ ∃ Nx : Hp → Prop, (∀ H', Nx H' → ∃ m', m' < m ∧ W (i + 1) m' H') ∧ ∀ x H', (Cb.ItC vs0 L).yld i H x H' → g x (wipe σ vs) H' fun σ2 H2 => wipe σ2 vs = wipe σ vs ∧ tt σ2 H2 fun b H3 =>
        if b = true then te σ2 H3 fun y H4 => ∃ acc, H4 D = some (.lst acc) ∧ acc.length < sizeLine ∧ Nx (upd H4 D (.lst (acc ++ [y]))) else Nx H3) := by
  refine ⟨fun i m H => m = L.length - i ∧ i ≤ L.length ∧ Pv i H, ⟨L.length, by simp, Nat.zero_le _, h0⟩, ?_⟩
  rintro i m H ⟨rfl, hi, p⟩
  by_cases hlt : i < L.length
  · refine .inr ⟨hlt, Pv (i + 1), fun H' p' => ⟨L.length - (i + 1), by omega, rfl, hlt, p'⟩, ?_⟩
    rintro x H' ⟨T, ix, e, rfl, hT, rfl⟩
    exact hs i ix H T e p hT
  · have e : i = L.length := by omega
    subst e
    exact .inl ⟨Nat.le_refl _, hd H p⟩
theorem cmb_lt : ∀ (k : Nat) (xs v : List Nat), v ∈ Cb.cmb k xs → ∀ j ∈ v, j ∈ xs
  | 0, xs, v, h, j, hj => by
    have : v = [] := by simpa [Cb.cmb] using h
    rw [this] at hj; cases hj
  | k + 1, [], v, h, j, hj => by cases h
  | k + 1, x :: xs, v, h, j, hj => by
    rcases List.mem_append.mp h with h | h
    · obtain ⟨v', h1, rfl⟩ := List.mem_map.mp h
      rcases List.mem_cons.mp hj with e | e
      · rw [e]; simp
      · exact List.mem_cons_of_mem _ (cmb_lt k xs v' h1 j e)
    · exact List.mem_cons_of_mem _ (cmb_lt (k + 1) xs v h j hj)

/-! ### the keeping of pairs -/
def ropeB (n : Int) (p : Int × Int) : Bool := decide (0 ≤ p.1) && (decide (p.1 + 2 ≤ p.2) && (decide (p.2 < n) && !decide (p = (0, n - 1))))
def sp_isrope : Sp := fun vs H Q _ => ∃ n a b : Int, vs = [.int n, .int a, .int b] ∧ ∀ H', Same H H' → Q (.bl (ropeB n (a, b))) H'
theorem ok_is_rope (T : Env K mg) : FnOk P w K mg base CX0 1 T.a_is_rope T.fd_is_rope ["n", "a", "b"] sp_isrope := by
  refine T.F_is_rope.ok sc_is_rope (fun vs H Q E h => ?_) (fun cdv A outer s H vs Q E hr h => ?_)
  · obtain ⟨n, a, b, rfl, _⟩ := h
    rfl
  · obtain ⟨n, a, b, rfl, q⟩ := h
    refine ⟨_, (pss_one (ps_ret (pe_and (pe_cmpR op_le pe_int (pv 1) (nomark _)) (pe_and (pe_cmpR op_le (pe_op op_add (pv 1) pe_int) (pv 2) (nomark _)) (pe_and (pe_cmpR op_lt (pv 2) (pv 0) (nomark _)) (pe_one (pe_cmpR (op_neP2 (by have h_ := hr.units; exact h_)) (pe_tup (pa_cons (pv 1) (pa_cons (pv 2) pa_nil))) (pe_tup (pa_cons pe_int (pa_cons (pe_op op_sub (pv 0) pe_int) pa_nil))) (nomark _)))))))), ?_⟩
    unfold ropeB at q
    refine ⟨_, rfl, _, _, rfl, rfl, _, rfl, ?_⟩
    show if decide (0 ≤ a) = true then _ else _
    cases h1 : decide (0 ≤ a) with
    | false =>
      refine iteF ?_
      have := q H (Same.refl _)
      rw [h1] at this
      exact this
    | true =>
      refine iteT ?_
      refine ⟨_, rfl, _, _, rfl, rfl, _, rfl, _, _, rfl, rfl, _, rfl, ?_⟩
      show if decide (a + 2 ≤ b) = true then _ else _
      cases h2 : decide (a + 2 ≤ b) with
      | false =>
        refine iteF ?_
        have := q H (Same.refl _)
        rw [h1, h2] at this
        exact this
      | true =>
        refine iteT ?_
        refine ⟨_, rfl, _, rfl, _, _, rfl, rfl, _, rfl, ?_⟩
        show if decide (b < n) = true then _ else _
        cases h3 : decide (b < n) with
        | false =>
          refine iteF ?_
          have := q H (Same.refl _)
          rw [h1, h2, h3] at this
          exact this
        | true =>
          refine iteT ?_
          refine ⟨_, rfl, _, rfl, small200 (by show 2 ≤ 200; decide), fun t ht => ?_⟩
          have s1 : Same H _ := same_new (o := .tup [.int a, .int b]) ht
          have ht2 : (upd H t (.tup [.int a, .int b])) t = some (.tup [.int a, .int b]) := upd_same
          generalize upd H t (.tup [.int a, .int b]) = H1 at *
          refine ⟨_, rfl, _, _, rfl, rfl, small200 (by show 2 ≤ 200; decide), fun u hu => ?_⟩
          have s2 : Same H1 _ := same_new (o := .tup [.int 0, .int (n - 1)]) hu
          have hu2 : (upd H1 u (.tup [.int 0, .int (n - 1)])) u = some (.tup [.int 0, .int (n - 1)]) := upd_same
          generalize upd H1 u (.tup [.int 0, .int (n - 1)]) = H2 at *
          have := q H2 (s1.trans s2)
          rw [h1, h2, h3] at this
          exact ⟨(a, b), (0, n - 1), ⟨t, rfl, s2 _ _ ht2⟩, ⟨u, rfl, hu2⟩, this⟩
def twoB (l : List (Int × Int)) (v : List Nat) : Bool := crossI (l.getD (v.getD 1 0) (0, 0)) (l.getD (v.getD 0 0) (0, 0))
def cutB (n : Int) (l : List (Int × Int)) : Bool := decide ((l.length : Int) = n - 3) && (decide l.Nodup && (l.all (ropeB n) && !((Cb.cmb 2 (List.range l.length)).any (twoB l))))
def sp_iscut (K : PySem.W.Frag) : Sp := fun vs H Q _ => ∃ (n : Int) (c : Addr) (xs : List V) (l : List (Int × Int)), vs = [.int n, .ref c] ∧ 3 ≤ n ∧ n ≤ 12 ∧ H c = some (.lst xs) ∧ PrL K H xs l ∧ l.length ≤ 100 ∧
  ∀ H', Same H H' → Q (.bl (cutB n l)) H'
theorem ok_is_cutting (T : Env K mg) : FnOk P w K mg base CX0 2 T.a_is_cutting T.fd_is_cutting ["n", "pairs"] (sp_iscut K) := by
  refine T.F_is_cutting.ok sc_is_cutting (fun vs H Q E h => ?_) (fun cdv A outer s H vs Q E hr h => ?_)
  · obtain ⟨n, c, xs, l, rfl, _⟩ := h
    rfl
  · obtain ⟨n, c, xs, l, rfl, h3, h12, hc, hL, hl, q⟩ := h
    refine ⟨_, (pss_cons (ps_if (PW.pt (pw_or (pt_cmpR op_ne (pe_callB call_len_seq (by rfl) T.m_len (by decide +kernel) (pa_cons (pv 1) pa_nil)) (pe_op op_sub (pv 0) pe_int) (nomark _)) (pw_or1 (pt_cmpR op_ne (pe_lenSet2 rfl (by exact hr.units) (by rfl) T.m_len (by rfl) T.m_set (pv 1)) (pe_callB call_len_seq (by rfl) T.m_len (by decide +kernel) (pa_cons (pv 1) pa_nil)) (nomark _)))))
 (pss_one (ps_ret pe_bl))
 pss_nil)
 (pss_cons (ps_if (pt_not (pt_val (pe_callB (cr_all rfl) (by rfl) T.m_all (by decide +kernel) (pa_cons (pe_lc (own := [("a", 2), ("b", 3)]) (by rfl) sc_is_cutting.nd (pi_list (pv 1)) (blkOk_by (own := [("a", 2), ("b", 3)]) (N := ["n", "pairs", "a", "b", "one", "other"]) (sc := defScope s_is_cutting) (by decide +kernel)) (fun _ _ _ _ _ => (pg_tupK (K := K) (n := 2) rfl rfl (pgs_cons (pg_name (i := 2) sc_is_cutting.nd rfl (.inl rfl)) (pgs_cons (pg_name (i := 3) sc_is_cutting.nd rfl (.inl rfl)) pgs_nil)))) (fun _ _ _ _ _ => pts_nil) (fun _ _ _ _ _ => (pe_call (ok_is_rope T) (hr.mono (by decide)) (by rfl) T.g_is_rope T.F_is_rope.kp T.b_is_rope .nil pass0 (pa_cons (pv 0) (pa_cons (pv 2) (pa_cons (pv 3) pa_nil)))))) pa_nil))))
 (pss_one (ps_ret pe_bl))
 pss_nil)
 (pss_one (ps_ret (pe_not (pe_callB (cr_any rfl) (by rfl) T.m_any (by decide +kernel) (pa_cons (pe_lc (own := [("one", 4), ("other", 5)]) (by rfl) sc_is_cutting.nd (Cb.pi_cbL (k := 2) (by decide) (by rfl) (by rfl) T.m_combinations (pv 1)) (blkOk_by (own := [("one", 4), ("other", 5)]) (N := ["n", "pairs", "a", "b", "one", "other"]) (sc := defScope s_is_cutting) (by decide +kernel)) (fun _ _ _ _ _ => (pg_tupK (K := K) (n := 2) rfl rfl (pgs_cons (pg_name (i := 4) sc_is_cutting.nd rfl (.inl rfl)) (pgs_cons (pg_name (i := 5) sc_is_cutting.nd rfl (.inl rfl)) pgs_nil)))) (fun _ _ _ _ _ => pts_nil) (fun _ _ _ _ _ => (pe_call (ok_crosses T) (hr.mono (by decide)) (by rfl) T.g_crosses T.F_crosses.kp T.b_crosses .nil pass0 (pa_cons (pv 4) (pa_cons (pv 5) pa_nil))))) pa_nil))))))), ?_⟩
    have hxl := hL.length
    have hS : SqL K H c xs := .inl (.inl hc)
    refine ⟨_, rfl, _, _, rfl, .inl hS, _, rfl, _, _, rfl, rfl, rfl, _, rfl, ?_⟩
    show if (!decide (V.int (xs.length : Int) = V.int (n - 3))) = true then _ else _
    by_cases e1 : (l.length : Int) = n - 3
    · rw [decide_eq_true (show V.int (xs.length : Int) = V.int (n - 3) by rw [hxl, e1])]
      refine iteF ?_
      refine ⟨_, rfl, c, xs, l, rfl, hS, hL, by omega, fun m hm => ?_⟩
      refine ⟨_, rfl, _, _, rfl, .inl hS, rfl, _, rfl, ?_⟩
      show if (!decide (V.int (m : Int) = V.int (xs.length : Int))) = true then _ else _
      by_cases e2 : l.Nodup
      · rw [decide_eq_true (show V.int (m : Int) = V.int (xs.length : Int) by rw [hxl, hm.mpr e2])]
        refine iteF ?_
        have hlen9 : l.length ≤ 9 := by omega
        refine ⟨_, rfl, c, rfl, ⟨_, hS⟩, fun D hD => ?_⟩
        refine lc_list (K := K) (a := c) (xs := xs) (fun i H' => Same H H' ∧ H' D = some (.lst (((l.take i).map (ropeB n)).map V.bl))) ⟨same_new hD, upd_same⟩ ?_ ?_ ?_
        · rintro i H' _ ⟨s3, _⟩
          exact s3.seq hS
        · rintro i x' H' hi ⟨s3, hz⟩
          obtain ⟨p, hp, t, rfl, ht⟩ := hL.at hi
          refine ⟨t, _, rfl, .inl (.inl (s3 _ _ ht)), rfl, _, _, rfl, _, _, rfl, rfl, rfl, yes_read ?_⟩
          refine ⟨_, rfl, _, rfl, _, rfl, n, p.1, p.2, rfl, fun H2 s4 => ?_⟩
          refine ⟨_, s4 _ _ hz, small200' (by rw [List.length_map, List.length_map, List.length_take]; omega), ?_, ?_⟩
          · intro b' o eb
            rw [upd_ne (ne_of_none eb hD)]
            exact s4 _ _ (s3 _ _ eb)
          · rw [upd_same, take_more hp, List.map_append, List.map_append]; rfl
        · rintro H1 ⟨s1, hz⟩
          rw [List.take_of_length_le (by omega)] at hz
          refine ⟨D, l.map (ropeB n), rfl, .inl (.inl hz), _, rfl, ?_⟩
          show if (!(l.map (ropeB n)).all id) = true then _ else _
          have ea : (l.map (ropeB n)).all id = l.all (ropeB n) := by rw [List.all_map]; rfl
          rw [ea]
          cases e4 : l.all (ropeB n) with
          | false =>
            refine iteT ?_
            have := q H1 s1
            unfold cutB at this
            rw [e4, Bool.false_and, Bool.and_false, Bool.and_false] at this
            exact this
          | true =>
            refine iteF ?_
            have hS1 : SqL K H1 c xs := s1.seq hS
            have hL1 := hL.mono s1
            have hcb := Cb.cbl (n := l.length) (k := 2) (by omega) (by omega)
            have hcl : (Cb.cmb 2 (List.range l.length)).length ≤ 36 := by
              have : ((List.range 10).all fun m => decide ((Cb.cmb 2 (List.range m)).length ≤ 36)) = true := by decide +kernel
              exact of_decide_eq_true (List.all_eq_true.mp this l.length (List.mem_range.mpr (by omega)))
            refine ⟨_, rfl, c, xs, rfl, hS1, by omega, Cb.cmb 2 (List.range l.length), by rw [hxl]; exact hcb, fun D2 hD2 => ?_⟩
            refine lc_cb (fun i H' => Same H1 H' ∧ H' D2 = some (.lst ((((Cb.cmb 2 (List.range l.length)).take i).map (twoB l)).map V.bl))) ⟨same_new hD2, upd_same⟩ ?_ ?_
            · rintro i ix H' U hi ⟨s3, hz2⟩ hU
              have hl2 := hcb.len ix (List.mem_of_getElem? hi)
              have hb : ∀ j ∈ ix, j < l.length := fun j hj => List.mem_range.mp (cmb_lt 2 _ ix (List.mem_of_getElem? hi) j hj)
              obtain ⟨i0, i1, rfl⟩ : ∃ i0 i1, ix = [i0, i1] := by
                match ix, hl2 with
                | [i0, i1], _ => exact ⟨i0, i1, rfl⟩
              have j0 := hb i0 (by simp)
              have j1 := hb i1 (by simp)
              obtain ⟨v0, ev0, hv0⟩ := hL1.at' (List.getElem?_eq_getElem j0)
              obtain ⟨v1, ev1, hv1⟩ := hL1.at' (List.getElem?_eq_getElem j1)
              have ep : Cb.pickV xs [i0, i1] = [v0, v1] := by
                show [xs.getD i0 .non, xs.getD i1 .non] = _
                rw [List.getD_eq_getElem?_getD, List.getD_eq_getElem?_getD, ev0, ev1]; rfl
              rw [ep]
              have s4 : Same H' _ := same_new (o := .tup [v0, v1]) hU
              have hU2 : (upd H' U (.tup [v0, v1])) U = some (.tup [v0, v1]) := upd_same
              generalize upd H' U (.tup [v0, v1]) = H4 at *
              have s34 := s3.trans s4
              refine ⟨U, _, rfl, .inl (.inl hU2), rfl, _, _, rfl, _, _, rfl, rfl, rfl, yes_read ?_⟩
              refine ⟨_, rfl, _, rfl, v0, v1, l[i0], l[i1], rfl, hv0.mono s34, hv1.mono s34, ?_⟩
              have et : twoB l [i0, i1] = crossI l[i1] l[i0] := by
                show crossI (l.getD i1 (0, 0)) (l.getD i0 (0, 0)) = _
                rw [List.getD_eq_getElem?_getD, List.getD_eq_getElem?_getD, List.getElem?_eq_getElem j0, List.getElem?_eq_getElem j1]; rfl
              rw [← et]
              refine ⟨_, s4 _ _ hz2, small200' (by rw [List.length_map, List.length_map, List.length_take]; omega), ?_, ?_⟩
              · intro b' o eb
                rw [upd_ne (ne_of_none eb hD2)]
                exact s34 _ _ eb
              · rw [upd_same, take_more hi, List.map_append, List.map_append]; rfl
            · rintro H5 ⟨s5, hz2⟩
              rw [List.take_of_length_le (Nat.le_refl _)] at hz2
              refine ⟨D2, (Cb.cmb 2 (List.range l.length)).map (twoB l), rfl, .inl (.inl hz2), ?_⟩
              have := q H5 (s1.trans s5)
              unfold cutB at this
              rw [decide_eq_true e1, decide_eq_true e2, e4, Bool.true_and, Bool.true_and, Bool.true_and] at this
              have eb : ((Cb.cmb 2 (List.range l.length)).map (twoB l)).any id = (Cb.cmb 2 (List.range l.length)).any (twoB l) := by rw [List.any_map]; rfl
              rw [eb]
              exact ⟨_, rfl, this⟩
      · rw [decide_eq_false (show ¬ V.int (m : Int) = V.int (xs.length : Int) from fun z => e2 (hm.mp (by have := V.int.inj z; omega)))]
        refine iteT ?_
        have := q H (Same.refl _)
        unfold cutB at this
        rw [decide_eq_false e2, Bool.false_and, Bool.and_false] at this
        exact this
    · rw [decide_eq_false (show ¬ V.int (xs.length : Int) = V.int (n - 3) from fun z => e1 (by have := V.int.inj z; omega))]
      refine iteT ?_
      have := q H (Same.refl _)
      unfold cutB at this
      rw [decide_eq_false e1, Bool.false_and] at this
      exact this

theorem ok_pair_of (T : Env K mg) : FnOk P w K mg base CX0 1 T.a_pair_of T.fd_pair_of ["a", "b"] sp_pair := by
  refine T.F_pair_of.ok sc_pair_of (fun vs H Q E h => ?_) (fun cdv A outer s H vs Q E hr h => ?_)
  · obtain ⟨a, b, rfl, _⟩ := h
    rfl
  · obtain ⟨a, b, rfl, q⟩ := h
    refine ⟨_, (pss_one (ps_ret (pe_tup (pa_cons (pe_callB (call_min2 rfl) (by rfl) T.m_min (by decide +kernel) (pa_cons (pv 0) (pa_cons (pv 1) pa_nil))) (pa_cons (pe_callB (call_max2 rfl) (by rfl) T.m_max (by decide +kernel) (pa_cons (pv 0) (pa_cons (pv 1) pa_nil))) pa_nil))))), ?_⟩
    refine ⟨_, rfl, _, rfl, _, _, rfl, _, rfl, _, rfl, _, _, rfl, small200 (by show 2 ≤ 200; decide), fun t ht => ?_⟩
    have := q t ht
    rw [pmin, pmax]
    exact this
abbrev prL (l : List (Int × Int)) : List (Int × Int) := l.map fun p => pr p.1 p.2
def sp_kept (K : PySem.W.Frag) (C : Addr) : Sp := fun vs H Q E => ∃ (n : Int) (c : Addr) (xs : List V) (l : List (Int × Int)), vs = [.int n, .ref c] ∧ H c = some (.lst xs) ∧ PrL K H xs l ∧ l.length ≤ 60 ∧
  (¬ (3 ≤ n ∧ n ≤ 12 ∧ cutB n (sort2 (prL l)) = true) → ∀ H', Same H H' → E (.ref C) none H') ∧
  (3 ≤ n → n ≤ 12 → cutB n (sort2 (prL l)) = true → ∀ H' q ys, Same H H' → H q = none → H' q = some (.lst ys) → PrL K H' ys (sort2 (prL l)) → Q (.ref q) H')
theorem ok_kept (T : Env K mg) : FnOk P w K mg base (L2.CX P w) 3 T.a_kept T.fd_kept ["n", "ropes"] (sp_kept K T.C_NoCutting) := by
  refine T.F_kept.okX sc_kept (fun vs H Q E h => ?_) (fun cdv A outer s H vs Q E hr h => ?_)
  · obtain ⟨n, c, xs, l, rfl, _⟩ := h
    rfl
  · obtain ⟨n, c, xs, l, rfl, hc, hL, hl, k0, k1⟩ := h
    refine ⟨_, (pss_cons (ps_if (pt_not (pt_chain op_le op_le (pe_glob (v := .int 3) rfl T.m_LEAST_POSTS ⟨_, rfl⟩) (pv 0) (pe_glob (v := .int 12) rfl T.m_MOST_POSTS ⟨_, rfl⟩)))
 (pss_one (ps_raise rfl (takes_of rfl rfl rfl rfl) (pmk_own PySem.F.excBase_ValueError T.x_NoCutting T.c_NoCutting T.k_NoCutting (raises_own T.bs_NoCutting T.ty_NoCutting) rfl)))
 pss_nil)
 (pss_cons (ps_set (i := 2) sc_kept.nd rfl (.inl rfl) (pe_callB cr_sort2 (by rfl) T.m_sorted (by decide +kernel) (pa_cons (pe_lc (own := [("a", 3), ("b", 4)]) (by rfl) sc_kept.nd (pi_list (pv 1)) (blkOk_by (own := [("a", 3), ("b", 4)]) (N := ["n", "ropes", "cut", "a", "b"]) (sc := defScope s_kept) (by decide +kernel)) (fun _ _ _ _ _ => (pg_tupK (K := K) (n := 2) rfl rfl (pgs_cons (pg_name (i := 3) sc_kept.nd rfl (.inl rfl)) (pgs_cons (pg_name (i := 4) sc_kept.nd rfl (.inl rfl)) pgs_nil)))) (fun _ _ _ _ _ => pts_nil) (fun _ _ _ _ _ => (pe_call (ok_pair_of T) (hr.mono (by decide)) (by rfl) T.g_pair_of T.F_pair_of.kp T.b_pair_of .nil pass0 (pa_cons (pv 3) (pa_cons (pv 4) pa_nil))))) pa_nil)))
 (pss_cons (ps_if (pt_not (pt_val (pe_call (ok_is_cutting T) (hr.mono (by decide)) (by rfl) T.g_is_cutting T.F_is_cutting.kp T.b_is_cutting .nil pass0 (pa_cons (pv 0) (pa_cons (pv 2) pa_nil)))))
 (pss_one (ps_raise rfl (takes_of rfl rfl rfl rfl) (pmk_own PySem.F.excBase_ValueError T.x_NoCutting T.c_NoCutting T.k_NoCutting (raises_own T.bs_NoCutting T.ty_NoCutting) rfl)))
 pss_nil)
 (pss_one (ps_ret (pv 2)))))), ?_⟩
    have hxl := hL.length
    refine ⟨_, rfl, _, _, rfl, rfl, _, rfl, ?_⟩
    show if decide (3 ≤ n) = true then _ else _
    by_cases h3 : 3 ≤ n
    · rw [decide_eq_true h3]
      refine iteT ?_
      refine ⟨_, _, rfl, rfl, _, rfl, ?_⟩
      show if (!decide (n ≤ 12)) = true then _ else _
      by_cases h12 : n ≤ 12
      · rw [decide_eq_true h12]
        refine iteF ?_
        refine ⟨_, rfl, c, rfl, ⟨_, .inl (.inl hc)⟩, fun D hD => ?_⟩
        refine lc_list (K := K) (a := c) (xs := xs) (fun i H' => ∃ ws, Same H H' ∧ H' D = some (.lst ws) ∧ PrL K H' ws (prL (l.take i))) ⟨[], same_new hD, upd_same, by rw [List.take_zero]; exact .nil⟩ ?_ ?_ ?_
        · rintro i H' _ ⟨ws, s3, _, _⟩
          exact .inl (.inl (s3 _ _ hc))
        · rintro i x' H' hi ⟨ws, s3, hz, hW⟩
          obtain ⟨p, hp, t, rfl, ht⟩ := hL.at hi
          have hwl := hW.length
          rw [List.length_map, List.length_take] at hwl
          refine ⟨t, _, rfl, .inl (.inl (s3 _ _ ht)), rfl, _, _, rfl, _, _, rfl, rfl, rfl, yes_read ?_⟩
          refine ⟨_, rfl, _, rfl, p.1, p.2, rfl, fun u hu => ?_⟩
          have s4 : Same H' _ := same_new (o := .tup [.int (pr p.1 p.2).1, .int (pr p.1 p.2).2]) hu
          have hu2 : (upd H' u (.tup [.int (pr p.1 p.2).1, .int (pr p.1 p.2).2])) u = some (.tup [.int (pr p.1 p.2).1, .int (pr p.1 p.2).2]) := upd_same
          generalize upd H' u (.tup [.int (pr p.1 p.2).1, .int (pr p.1 p.2).2]) = H4 at *
          refine ⟨ws, s4 _ _ hz, small200' (by omega), ws ++ [.ref u], ?_, upd_same, ?_⟩
          · intro b' o eb
            rw [upd_ne (ne_of_none eb hD)]
            exact s4 _ _ (s3 _ _ eb)
          · have em : prL (l.take (i + 1)) = prL (l.take i) ++ [pr p.1 p.2] := by rw [take_more hp]; unfold prL; rw [List.map_append]; rfl
            rw [em]
            have ts := TupS.put (o := .lst (ws ++ [.ref u])) (s4 _ _ hz)
            exact ((hW.mono s4).tups ts).app (.one ⟨u, rfl, ts _ _ hu2⟩)
        · rintro H1 ⟨ws, s1, hz, hW⟩
          rw [List.take_of_length_le (by omega)] at hW
          refine ⟨D, ws, _, rfl, .inl (.inl hz), hW, fun ys g hY hg => ?_⟩
          have s2 : Same H1 _ := same_new (o := .lst ys) hg
          have hg2 : (upd H1 g (.lst ys)) g = some (.lst ys) := upd_same
          have hY2 := hY.mono s2
          have ng : H g = none := none_back s1 hg
          generalize upd H1 g (.lst ys) = H2 at *
          have s12 := s1.trans s2
          refine ⟨_, rfl, _, rfl, n, g, ys, sort2 (prL l), rfl, h3, h12, hg2, hY2, by rw [sort2_len, List.length_map]; omega, fun H3 s3 => ?_⟩
          refine ⟨_, rfl, ?_⟩
          show if (!cutB n (sort2 (prL l))) = true then _ else _
          cases e : cutB n (sort2 (prL l)) with
          | false =>
            refine iteT ?_
            exact k0 (fun z => by rw [e] at z; cases z.2.2) H3 (s12.trans s3)
          | true =>
            refine iteF ?_
            exact ⟨_, rfl, k1 h3 h12 e H3 g ys (s12.trans s3) ng (s3 _ _ hg2) (hY2.mono s3)⟩
      · rw [decide_eq_false h12]
        refine iteT ?_
        exact k0 (fun z => h12 z.2.1) H (Same.refl _)
    · rw [decide_eq_false h3]
      refine iteF ?_
      refine ⟨_, rfl, ?_⟩
      show if true = true then _ else _
      refine iteT ?_
      exact k0 (fun z => h3 z.1) H (Same.refl _)

/-! ### the plain reading of good pairs -/
def okP (n : Int) (p : Int × Int) : Prop := 0 ≤ p.1 ∧ p.2 < n ∧ 2 ≤ p.2 - p.1 ∧ p.2 - p.1 ≠ n - 1
def okAt (n : Int) (l : List (Int × Int)) (k : Nat) : Prop := ∀ p, l[k]? = some p → okP n (pr p.1 p.2) ∧ ∀ j q, j < k → l[j]? = some q → pr q.1 q.2 ≠ pr p.1 p.2 ∧ crossI q (pr p.1 p.2) = false
def Good (n : Int) (l : List (Int × Int)) : Prop := 3 ≤ n ∧ n ≤ 12 ∧ (l.length : Int) = n - 3 ∧ ∀ k, okAt n l k
theorem cut_takeI (xs : List V) (i : Nat) : cutV xs none (some (0 + (i : Int))) = xs.take i := by
  rw [Int.zero_add]
  exact cut_take xs i
def sp_good (K : PySem.W.Frag) : Sp := fun vs H Q _ => ∃ (n : Int) (c : Addr) (xs : List V) (l : List (Int × Int)), vs = [.int n, .ref c] ∧ SqL K H c xs ∧ PrL K H xs l ∧ l.length ≤ 60 ∧
  ∀ (b : Bool) H', (b = true ↔ Good n l) → Same H H' → Q (.bl b) H'
theorem ok__law_good (T : Env K mg) : FnOk P w K mg base CX0 2 T.a__law_good T.fd__law_good ["_law_n", "_law_ropes_here"] (sp_good K) := by
  refine T.F__law_good.ok sc__law_good (fun vs H Q E h => ?_) (fun cdv A outer s H vs Q E hr h => ?_)
  · obtain ⟨n, c, xs, l, rfl, _⟩ := h
    rfl
  · obtain ⟨n, c, xs, l, rfl, hS, hL, hl, kb⟩ := h
    have k1 : Good n l → ∀ H', Same H H' → Q (.bl true) H' := fun g H' s => kb true H' ⟨fun _ => g, fun _ => rfl⟩ s
    have k0 : ¬ Good n l → ∀ H', Same H H' → Q (.bl false) H' := fun g H' s => kb false H' ⟨fun z => (by cases z), fun z => absurd z g⟩ s
    refine ⟨_, (pss_cons (ps_if (PW.pt (pw_or (pt_cmpR op_lt (pv 0) pe_int (nomark _)) (pw_or (pt_cmpR op_gt (pv 0) pe_int (nomark _)) (pw_or1 (pt_cmpR op_ne (pe_callB call_len_seq (by rfl) T.m_len (by decide +kernel) (pa_cons (pv 1) pa_nil)) (pe_op op_sub (pv 0) pe_int) (nomark _))))))
 (pss_one (ps_ret pe_bl))
 pss_nil)
 (pss_cons (ps_for PassesOwn.never rfl (pi_range1 (by rfl) T.m_range (pa_cons (pe_callB call_len_seq (by rfl) T.m_len (by decide +kernel) (pa_cons (pv 1) pa_nil)) pa_nil)) (pg_name (i := 2) sc__law_good.nd rfl (.inl rfl))
 (pss_cons (ps_set (i := 3) sc__law_good.nd rfl (.inl rfl) (pe_callB (call_min2 rfl) (by rfl) T.m_min (by decide +kernel) (pa_cons (pe_ix ix_tup (pe_ix ix_list (pv 1) (pv 2) (fun _ _ => rfl)) pe_int (fun _ _ => rfl)) (pa_cons (pe_ix ix_tup (pe_ix ix_list (pv 1) (pv 2) (fun _ _ => rfl)) pe_int (fun _ _ => rfl)) pa_nil))))
 (pss_cons (ps_set (i := 4) sc__law_good.nd rfl (.inl rfl) (pe_callB (call_max2 rfl) (by rfl) T.m_max (by decide +kernel) (pa_cons (pe_ix ix_tup (pe_ix ix_list (pv 1) (pv 2) (fun _ _ => rfl)) pe_int (fun _ _ => rfl)) (pa_cons (pe_ix ix_tup (pe_ix ix_list (pv 1) (pv 2) (fun _ _ => rfl)) pe_int (fun _ _ => rfl)) pa_nil))))
 (pss_cons (ps_if (PW.pt (pw_or (pt_cmpR op_lt (pv 3) pe_int (nomark _)) (pw_or (pt_cmpR op_ge (pv 4) (pv 0) (nomark _)) (pw_or (pt_cmpR op_lt (pe_op op_sub (pv 4) (pv 3)) pe_int (nomark _)) (pw_or1 (pt_cmpR op_eq (pe_op op_sub (pv 4) (pv 3)) (pe_op op_sub (pv 0) pe_int) (nomark _)))))))
 (pss_one (ps_ret pe_bl))
 pss_nil)
 (pss_one (ps_for PassesOwn.never rfl (pi_list (pe_slice sl_list (pv 1) po_none (po_some (pv 2)))) (pg_name (i := 5) sc__law_good.nd rfl (.inl rfl))
 (pss_one (ps_if (PW.pt (pw_or (pt_cmpR (op_eqP2 (by have h_ := hr.units; exact h_)) (pe_call (ok__law_pair T) (hr.mono (by decide)) (by rfl) T.g__law_pair T.F__law_pair.kp T.b__law_pair .nil pass0 (pa_cons (pe_ix ix_tup (pv 5) pe_int (fun _ _ => rfl)) (pa_cons (pe_ix ix_tup (pv 5) pe_int (fun _ _ => rfl)) pa_nil))) (pe_tup (pa_cons (pv 3) (pa_cons (pv 4) pa_nil))) (nomark _)) (pw_or1 (pt_val (pe_call (ok__law_cross T) (hr.mono (by decide)) (by rfl) T.g__law_cross T.F__law_cross.kp T.b__law_cross .nil pass0 (pa_cons (pv 5) (pa_cons (pe_tup (pa_cons (pv 3) (pa_cons (pv 4) pa_nil))) pa_nil)))))))
 (pss_one (ps_ret pe_bl))
 pss_nil))))))))
 (pss_one (ps_ret pe_bl)))), ?_⟩
    have hxl := hL.length
    refine ⟨_, rfl, _, _, rfl, rfl, _, rfl, ?_⟩
    show if decide (n < 3) = true then _ else _
    by_cases e1 : n < 3
    · rw [decide_eq_true e1]
      refine iteT ?_
      exact k0 (fun g => by have := g.1; omega) H (Same.refl _)
    rw [decide_eq_false e1]
    refine iteF ?_
    refine ⟨_, rfl, _, _, rfl, rfl, _, rfl, ?_⟩
    show if decide (n > 12) = true then _ else _
    by_cases e2 : n > 12
    · rw [decide_eq_true e2]
      refine iteT ?_
      exact k0 (fun g => by have := g.2.1; omega) H (Same.refl _)
    rw [decide_eq_false e2]
    refine iteF ?_
    refine ⟨_, rfl, _, _, rfl, .inl hS, _, rfl, _, _, rfl, rfl, rfl, _, rfl, ?_⟩
    show if (!decide (V.int (xs.length : Int) = V.int (n - 3))) = true then _ else _
    by_cases e3 : (l.length : Int) = n - 3
    · rw [decide_eq_true (show V.int (xs.length : Int) = V.int (n - 3) by rw [hxl, e3])]
      refine iteF ?_
      refine ⟨_, rfl, _, _, rfl, .inl hS, (xs.length : Int), rfl, by omega, by omega, for_range (lo := 0) (n := xs.length) (fun i σ H' => Same H H' ∧ (∃ y1 y2 y3 y4, σ = [some (.int n), some (.ref c), y1, y2, y3, y4]) ∧ ∀ k, k < i → okAt n l k) ⟨Same.refl _, ⟨_, _, _, _, rfl⟩, fun k hk => absurd hk (Nat.not_lt_zero _)⟩ ?_ ?_⟩
      · rintro i σ H' hi ⟨s1, ⟨y1, y2, y3, y4, rfl⟩, hok⟩
        obtain ⟨p, hp⟩ : ∃ p, l[i]? = some p := ⟨_, List.getElem?_eq_getElem (by omega)⟩
        obtain ⟨u, eu, t, rfl, ht⟩ := hL.at' hp
        have ht1 := s1 _ _ ht
        have hT : SqT K H' t [.int p.1, .int p.2] := .inl (.inl ht1)
        have hS1 : SqL K H' c xs := s1.seq hS
        have eu0 : atI xs (0 + (i : Int)) = some (.ref t) := by rw [Int.zero_add]; exact atI_nat eu
        have hA : (if p.2 < p.1 then p.2 else p.1) = (pr p.1 p.2).1 := pmin p.1 p.2
        have hB : (if p.2 > p.1 then p.2 else p.1) = (pr p.1 p.2).2 := pmax p.1 p.2
        have bad : ¬ okAt n l i → ¬ Good n l := fun h g => h (g.2.2.2 i)
        refine ⟨_, rfl, _, rfl, c, xs, _, .ref t, rfl, rfl, hS1, eu0, t, _, _, _, rfl, rfl, hT, atI_nat (j := 0) rfl, _, rfl, _, rfl, c, xs, _, .ref t, rfl, rfl, hS1, eu0, t, _, _, _, rfl, rfl, hT, atI_nat (j := 1) rfl, _, _, rfl, ?_⟩
        refine ⟨_, rfl, _, rfl, c, xs, _, .ref t, rfl, rfl, hS1, eu0, t, _, _, _, rfl, rfl, hT, atI_nat (j := 0) rfl, _, rfl, _, rfl, c, xs, _, .ref t, rfl, rfl, hS1, eu0, t, _, _, _, rfl, rfl, hT, atI_nat (j := 1) rfl, _, _, rfl, ?_⟩
        rw [hA, hB]
        clear hA hB
        have hokd : okAt n l i ↔ (okP n (pr p.1 p.2) ∧ ∀ j q, j < i → l[j]? = some q → pr q.1 q.2 ≠ pr p.1 p.2 ∧ crossI q (pr p.1 p.2) = false) := ⟨fun h => h p hp, fun h p' hp' => by rw [hp] at hp'; rw [← Option.some.inj hp']; exact h⟩
        generalize pr p.1 p.2 = ab at *
        obtain ⟨A0, B0⟩ := ab
        unfold okP at hokd
        dsimp only at *
        refine ⟨_, rfl, _, _, rfl, rfl, _, rfl, ?_⟩
        show if decide (A0 < 0) = true then _ else _
        by_cases f1 : A0 < 0
        · rw [decide_eq_true f1]
          refine iteT ?_
          exact k0 (bad fun h => by have := (hokd.mp h).1.1; omega) H' s1
        rw [decide_eq_false f1]
        refine iteF ?_
        refine ⟨_, rfl, _, rfl, _, _, rfl, rfl, _, rfl, ?_⟩
        show if decide (n ≤ B0) = true then _ else _
        by_cases f2 : n ≤ B0
        · rw [decide_eq_true f2]
          refine iteT ?_
          exact k0 (bad fun h => by have := (hokd.mp h).1.2.1; omega) H' s1
        rw [decide_eq_false f2]
        refine iteF ?_
        refine ⟨_, rfl, _, rfl, _, _, rfl, rfl, _, _, rfl, rfl, _, rfl, ?_⟩
        show if decide (B0 - A0 < 2) = true then _ else _
        by_cases f3 : B0 - A0 < 2
        · rw [decide_eq_true f3]
          refine iteT ?_
          exact k0 (bad fun h => by have := (hokd.mp h).1.2.2.1; omega) H' s1
        rw [decide_eq_false f3]
        refine iteF ?_
        refine ⟨_, rfl, _, rfl, _, _, rfl, rfl, _, rfl, _, _, rfl, rfl, rfl, _, rfl, ?_⟩
        show if decide (V.int (B0 - A0) = V.int (n - 1)) = true then _ else _
        by_cases f4 : B0 - A0 = n - 1
        · rw [decide_eq_true (congrArg V.int f4)]
          refine iteT ?_
          exact k0 (bad fun h => (hokd.mp h).1.2.2.2 f4) H' s1
        rw [decide_eq_false (fun z => f4 (V.int.inj z))]
        refine iteF ?_
        refine ⟨_, rfl, _, rfl, _, rfl, c, xs, rfl, hS1, fun c1 g1 => ?_⟩
        have s2 : Same H' _ := same_new (o := .lst (cutV xs none (some (0 + (i : Int))))) g1
        have hc1 : (upd H' c1 (.lst (cutV xs none (some (0 + (i : Int)))))) c1 = some (.lst (xs.take i)) := by rw [upd_same, cut_takeI]
        generalize upd H' c1 (.lst (cutV xs none (some (0 + (i : Int))))) = H2 at *
        have s12 := s1.trans s2
        have hx1 : SqL K H2 c1 (xs.take i) := .inl (.inl hc1)
        refine ⟨c1, rfl, ⟨_, hx1⟩, for_list (K := K) (a := c1) (xs := xs.take i) (fun j σ H3 => Same H2 H3 ∧ (∃ z, σ = [some (.int n), some (.ref c), some (.int (0 + (i : Int))), some (.int A0), some (.int B0), z]) ∧ ∀ j' q, j' < j → l[j']? = some q → pr q.1 q.2 ≠ (A0, B0) ∧ crossI q (A0, B0) = false) ⟨Same.refl _, ⟨_, rfl⟩, fun j' q hj => absurd hj (Nat.not_lt_zero _)⟩ (fun j σ H3 _ ⟨s3, _⟩ => s3.seq hx1) ?_ ?_⟩
        · rintro j x σ H3 hj ⟨s3, ⟨z, rfl⟩, hq⟩
          have hji : j < i := by
            have := (List.getElem?_eq_some_iff.mp hj).1
            rw [List.length_take] at this
            omega
          rw [List.getElem?_take_of_lt hji] at hj
          obtain ⟨q, eq, t2, rfl, ht2⟩ := hL.at hj
          have s13 := s12.trans s3
          have hT2 : SqT K H3 t2 [.int q.1, .int q.2] := .inl (.inl (s13 _ _ ht2))
          refine ⟨_, rfl, t2, _, _, _, rfl, rfl, hT2, atI_nat (j := 0) rfl, _, rfl, t2, _, _, _, rfl, rfl, hT2, atI_nat (j := 1) rfl, q.1, q.2, rfl, fun u hu => ?_⟩
          have s4 : Same H3 _ := same_new (o := .tup [.int (pr q.1 q.2).1, .int (pr q.1 q.2).2]) hu
          have hu2 : (upd H3 u (.tup [.int (pr q.1 q.2).1, .int (pr q.1 q.2).2])) u = some (.tup [.int (pr q.1 q.2).1, .int (pr q.1 q.2).2]) := upd_same
          generalize upd H3 u (.tup [.int (pr q.1 q.2).1, .int (pr q.1 q.2).2]) = H4 at *
          refine ⟨_, rfl, _, rfl, small200 (by show 2 ≤ 200; decide), fun v hv => ?_⟩
          have s5 : Same H4 _ := same_new (o := .tup [.int A0, .int B0]) hv
          have hv2 : (upd H4 v (.tup [.int A0, .int B0])) v = some (.tup [.int A0, .int B0]) := upd_same
          generalize upd H4 v (.tup [.int A0, .int B0]) = H5 at *
          have s15 := (s13.trans s4).trans s5
          refine ⟨pr q.1 q.2, (A0, B0), ⟨u, rfl, s5 _ _ hu2⟩, ⟨v, rfl, hv2⟩, _, rfl, ?_⟩
          show if decide (pr q.1 q.2 = (A0, B0)) = true then _ else _
          by_cases f5 : pr q.1 q.2 = (A0, B0)
          · rw [decide_eq_true f5]
            refine iteT ?_
            exact k0 (bad fun h => ((hokd.mp h).2 j q hji eq).1 f5) H5 s15
          rw [decide_eq_false f5]
          refine iteF ?_
          refine ⟨_, rfl, _, rfl, _, rfl, small200 (by show 2 ≤ 200; decide), fun v' hv' => ?_⟩
          have s6 : Same H5 _ := same_new (o := .tup [.int A0, .int B0]) hv'
          have hv3 : (upd H5 v' (.tup [.int A0, .int B0])) v' = some (.tup [.int A0, .int B0]) := upd_same
          generalize upd H5 v' (.tup [.int A0, .int B0]) = H6 at *
          have s16 := s15.trans s6
          refine ⟨.ref t2, .ref v', q, (A0, B0), rfl, ⟨t2, rfl, s16 _ _ ht2⟩, ⟨v', rfl, hv3⟩, _, rfl, ?_⟩
          show if crossI q (A0, B0) = true then _ else _
          cases f6 : crossI q (A0, B0) with
          | true =>
            refine iteT ?_
            exact k0 (bad fun h => by have := ((hokd.mp h).2 j q hji eq).2; rw [f6] at this; cases this) H6 s16
          | false =>
            refine iteF ?_
            refine ⟨((s3.trans s4).trans s5).trans s6, ⟨_, rfl⟩, fun j' q' hj' eq' => ?_⟩
            by_cases ej : j' = j
            · subst ej
              rw [eq] at eq'
              rw [← Option.some.inj eq']
              exact ⟨f5, f6⟩
            · exact hq j' q' (by omega) eq'
        · rintro σ H3 ⟨s3, ⟨z, rfl⟩, hq⟩
          refine ⟨s12.trans s3, ⟨_, _, _, _, rfl⟩, fun k hk => ?_⟩
          by_cases ek : k = i
          · subst ek
            refine hokd.mpr ⟨⟨by omega, by omega, by omega, f4⟩, fun j q hj eq => hq j q ?_ eq⟩
            rw [List.length_take]
            omega
          · exact hok k (by omega)
      · rintro σ H' ⟨s1, ⟨y1, y2, y3, y4, rfl⟩, hok⟩
        refine k1 ⟨by omega, by omega, e3, fun k => ?_⟩ H' s1
        by_cases hk : k < xs.length
        · exact hok k hk
        · intro p hp
          rw [List.getElem?_eq_none (by omega)] at hp
          cases hp
    · rw [decide_eq_false (show ¬ V.int (xs.length : Int) = V.int (n - 3) from fun z => e3 (by have := V.int.inj z; omega))]
      refine iteT ?_
      exact k0 (fun g => e3 g.2.2.1) H (Same.refl _)

theorem pl_of_mem {H : Hp} : ∀ {xs : List V}, (∀ x ∈ xs, ∃ p, PrAt K H x p) → ∃ l, PrL K H xs l
  | [], _ => ⟨[], .nil⟩
  | x :: xs, h => by
    obtain ⟨p, hp⟩ := h x (by simp)
    obtain ⟨l, hl⟩ := pl_of_mem fun y hy => h y (List.mem_cons_of_mem _ hy)
    exact ⟨p :: l, .cons hp hl⟩
theorem PrL.cut {H : Hp} {xs : List V} {l : List (Int × Int)} (h : PrL K H xs l) (lo hi : Option Int) : ∃ l', PrL K H (cutV xs lo hi) l' ∧ l'.length ≤ l.length := by
  obtain ⟨l', hl⟩ := pl_of_mem (K := K) (H := H) (xs := cutV xs lo hi) fun x hx => by
    have hm : x ∈ xs := List.mem_of_mem_drop (List.mem_of_mem_take hx)
    exact ⟨_, h.mem x hm⟩
  refine ⟨l', hl, ?_⟩
  have h1 := hl.length
  have h2 := h.length
  have h3 := cutV_length xs lo hi
  omega
def sp_spoilt (K : PySem.W.Frag) : Sp := fun vs H Q _ => ∃ (n : Int) (c r : Addr) (xs : List V) (l : List (Int × Int)) (rs : List Int), vs = [.int n, .ref c, .ref r] ∧ 3 ≤ n ∧ n ≤ 12 ∧ H c = some (.lst xs) ∧ PrL K H xs l ∧ l.length ≤ 12 ∧ SqL K H r (rs.map V.int) ∧ 17 ≤ rs.length ∧
  ∀ H' q zs m, Same H H' → H' q = some (.lst zs) → PrL K H' zs m → m.length ≤ 40 → Q (.ref q) H'
theorem ok__law_spoilt (T : Env K mg) : FnOk P w K mg base CX0 1 T.a__law_spoilt T.fd__law_spoilt ["_law_n", "_law_ropes_here", "_law_row"] (sp_spoilt K) := by
  refine T.F__law_spoilt.ok sc__law_spoilt (fun vs H Q E h => ?_) (fun cdv A outer s H vs Q E hr h => ?_)
  · obtain ⟨n, c, r, xs, l, rs, rfl, _⟩ := h
    rfl
  · obtain ⟨n, c, r, xs, l, rs, rfl, h3, h12, hc, hL, hl, hR, hrl, q⟩ := h
    refine ⟨_, (pss_cons (ps_set (i := 3) sc__law_spoilt.nd rfl (.inl rfl) (pe_op op_mod (pe_ix ix_list (pv 2) pe_int (fun _ _ => rfl)) pe_int))
 (pss_cons (ps_set (i := 4) sc__law_spoilt.nd rfl (.inl rfl) (pe_op op_mod (pe_ix ix_list (pv 2) pe_int (fun _ _ => rfl)) (pe_op op_add (pe_callB call_len_seq (by rfl) T.m_len (by decide +kernel) (pa_cons (pv 1) pa_nil)) pe_int)))
 (pss_cons (ps_set (i := 5) sc__law_spoilt.nd rfl (.inl rfl) (pe_tup (pa_cons (pe_op op_sub (pe_op op_mod (pe_ix ix_list (pv 2) pe_int (fun _ _ => rfl)) (pe_op op_add (pv 0) pe_int)) pe_int) (pa_cons (pe_op op_sub (pe_op op_mod (pe_ix ix_list (pv 2) pe_int (fun _ _ => rfl)) (pe_op op_add (pv 0) pe_int)) pe_int) pa_nil))))
 (pss_cons (ps_if (pt_cmpR op_eq (pv 3) pe_int (nomark _))
 (pss_one (ps_ret (pe_op op_cat (pe_op op_cat (pe_slice sl_list (pv 1) po_none (po_some (pv 4))) (pe_slice sl_list (pv 1) po_none (po_some pe_int))) (pe_slice sl_list (pv 1) (po_some (pe_op op_add (pv 4) pe_int)) po_none))))
 pss_nil)
 (pss_cons (ps_if (pt_cmpR op_eq (pv 3) pe_int (nomark _))
 (pss_one (ps_ret (pe_op op_cat (pe_op op_cat (pe_slice sl_list (pv 1) po_none (po_some (pv 4))) (pe_lst (pa_cons (pe_tup (pa_cons (pe_op op_mod (pe_ix ix_list (pv 2) pe_int (fun _ _ => rfl)) (pv 0)) (pa_cons (pe_op op_mod (pe_op op_add (pe_ix ix_list (pv 2) pe_int (fun _ _ => rfl)) pe_int) (pv 0)) pa_nil))) pa_nil))) (pe_slice sl_list (pv 1) (po_some (pe_op op_add (pv 4) pe_int)) po_none))))
 pss_nil)
 (pss_cons (ps_if (PW.pt (pw_or (pt_cmpR op_eq (pv 3) pe_int (nomark _)) (pw_or1 (pt_cmpR op_eq (pv 3) pe_int (nomark _)))))
 (pss_one (ps_ret (pe_op op_cat (pe_op op_cat (pe_slice sl_list (pv 1) po_none (po_some (pv 4))) (pe_lst (pa_cons (pv 5) pa_nil))) (pe_slice sl_list (pv 1) (po_some (pe_op op_add (pv 4) pe_int)) po_none))))
 pss_nil)
 (pss_cons (ps_if (pt_cmpR op_eq (pv 3) pe_int (nomark _))
 (pss_one (ps_ret (pe_op op_cat (pe_slice sl_list (pv 1) po_none (po_some (pv 4))) (pe_slice sl_list (pv 1) (po_some (pe_op op_add (pv 4) pe_int)) po_none))))
 pss_nil)
 (pss_cons (ps_if (pt_cmpR op_eq (pv 3) pe_int (nomark _))
 (pss_one (ps_ret (pe_op op_cat (pe_op op_cat (pe_slice sl_list (pv 1) po_none (po_some (pv 4))) (pe_lst (pa_cons (pv 5) pa_nil))) (pe_slice sl_list (pv 1) (po_some (pv 4)) po_none))))
 pss_nil)
 (pss_one (ps_ret (pv 1))))))))))), ?_⟩
    have hxl := hL.length
    obtain ⟨r13, _, a13⟩ := int_at (rs := rs) (k := 13) (by omega)
    obtain ⟨r14, _, a14⟩ := int_at (rs := rs) (k := 14) (by omega)
    obtain ⟨r15, _, a15⟩ := int_at (rs := rs) (k := 15) (by omega)
    obtain ⟨r16, _, a16⟩ := int_at (rs := rs) (k := 16) (by omega)
    have hS : SqL K H c xs := .inl (.inl hc)
    refine ⟨_, rfl, r, _, _, _, rfl, rfl, hR, a13, _, _, rfl, rfl, (by show (0 : Int) < _; decide), ?_⟩
    refine ⟨_, rfl, r, _, _, _, rfl, rfl, hR, a14, _, rfl, _, _, rfl, .inl hS, _, _, rfl, rfl, _, _, rfl, rfl, (by show (0 : Int) < _; omega), ?_⟩
    refine ⟨_, rfl, r, _, _, _, rfl, rfl, hR, a15, _, rfl, _, _, rfl, rfl, _, _, rfl, rfl, (by show (0 : Int) < _; omega), _, _, rfl, rfl, _, rfl, r, _, _, _, rfl, rfl, hR, a16, _, rfl, _, _, rfl, rfl, _, _, rfl, rfl, (by show (0 : Int) < _; omega), _, _, rfl, rfl, small200 (by show 2 ≤ 200; decide), fun f hf => ?_⟩
    have s0 : Same H _ := same_new (o := .tup [.int (r15 % (n + 2) - 1), .int (r16 % (n + 2) - 1)]) hf
    have hf2 : (upd H f (.tup [.int (r15 % (n + 2) - 1), .int (r16 % (n + 2) - 1)])) f = some (.tup [.int (r15 % (n + 2) - 1), .int (r16 % (n + 2) - 1)]) := upd_same
    generalize upd H f (.tup [.int (r15 % (n + 2) - 1), .int (r16 % (n + 2) - 1)]) = H1 at *
    have cm : ∀ {x : V} {lo hi : Option Int}, x ∈ cutV xs lo hi → x ∈ xs := fun hx => List.mem_of_mem_drop (List.mem_of_mem_take hx)
    have cl : ∀ lo hi : Option Int, (cutV xs lo hi).length ≤ 12 := fun lo hi => Nat.le_trans (cutV_length xs lo hi) (by omega)
    have fin : ∀ Hn z zs, Same H Hn → Hn z = some (.lst zs) → (∀ x ∈ zs, x ∈ xs ∨ ∃ p, PrAt K Hn x p) → zs.length ≤ 40 → Q (.ref z) Hn := fun Hn z zs sn hz hm hln => by
      obtain ⟨m, hP⟩ := pl_of_mem (K := K) (H := Hn) (xs := zs) fun x hx => by
        rcases hm x hx with h | h
        · exact ⟨_, (hL.mem x h).mono sn⟩
        · exact h
      exact q Hn z zs m sn hz hP (by have := hP.length; omega)
    have fr : PrAt K H1 (.ref f) (r15 % (n + 2) - 1, r16 % (n + 2) - 1) := ⟨f, rfl, hf2⟩
    refine ⟨_, rfl, rfl, _, rfl, ite2 (fun _ => ?_) (fun _ => ?_)⟩
    · have l_to := cl none (some (r14 % ((xs.length : Int) + 1)))
      have l_one := cl none (some 1)
      have l_next := cl (some (r14 % ((xs.length : Int) + 1) + 1)) none
      refine ⟨_, rfl, _, rfl, _, rfl, c, xs, rfl, s0.seq hS, fun a2 g2 => ?_⟩
      have n2 : Same H1 _ := same_new (o := .lst (cutV xs none (some (r14 % ((xs.length : Int) + 1))))) g2
      have b2 : (upd H1 a2 (.lst (cutV xs none (some (r14 % ((xs.length : Int) + 1)))))) a2 = some (.lst (cutV xs none (some (r14 % ((xs.length : Int) + 1))))) := upd_same
      generalize upd H1 a2 (.lst (cutV xs none (some (r14 % ((xs.length : Int) + 1))))) = H2 at *
      have u2 := s0.trans n2
      refine ⟨_, rfl, 1, rfl, c, xs, rfl, u2.seq hS, fun a3 g3 => ?_⟩
      have n3 : Same H2 _ := same_new (o := .lst (cutV xs none (some 1))) g3
      have b3 : (upd H2 a3 (.lst (cutV xs none (some 1)))) a3 = some (.lst (cutV xs none (some 1))) := upd_same
      generalize upd H2 a3 (.lst (cutV xs none (some 1))) = H3 at *
      have u3 := u2.trans n3
      have b2 := n3 _ _ b2
      refine ⟨a2, a3, _, _, rfl, rfl, b2, b3, small200 (by first | omega | (simp only [List.length_append, List.length_cons, List.length_nil]; omega)), fun a4 g4 => ?_⟩
      have n4 : Same H3 _ := same_new (o := .lst (cutV xs none (some (r14 % ((xs.length : Int) + 1))) ++ cutV xs none (some 1))) g4
      have b4 : (upd H3 a4 (.lst (cutV xs none (some (r14 % ((xs.length : Int) + 1))) ++ cutV xs none (some 1)))) a4 = some (.lst (cutV xs none (some (r14 % ((xs.length : Int) + 1))) ++ cutV xs none (some 1))) := upd_same
      generalize upd H3 a4 (.lst (cutV xs none (some (r14 % ((xs.length : Int) + 1))) ++ cutV xs none (some 1))) = H4 at *
      have u4 := u3.trans n4
      refine ⟨_, rfl, _, rfl, _, _, rfl, rfl, _, rfl, c, xs, rfl, u4.seq hS, fun a5 g5 => ?_⟩
      have n5 : Same H4 _ := same_new (o := .lst (cutV xs (some (r14 % ((xs.length : Int) + 1) + 1)) none)) g5
      have b5 : (upd H4 a5 (.lst (cutV xs (some (r14 % ((xs.length : Int) + 1) + 1)) none))) a5 = some (.lst (cutV xs (some (r14 % ((xs.length : Int) + 1) + 1)) none)) := upd_same
      generalize upd H4 a5 (.lst (cutV xs (some (r14 % ((xs.length : Int) + 1) + 1)) none)) = H5 at *
      have u5 := u4.trans n5
      have b4 := n5 _ _ b4
      refine ⟨a4, a5, _, _, rfl, rfl, b4, b5, small200 (by first | omega | (simp only [List.length_append, List.length_cons, List.length_nil]; omega)), fun a6 g6 => ?_⟩
      refine fin _ a6 _ (u5.trans (same_new g6)) upd_same (fun x hx => ?_) (by first | omega | (simp only [List.length_append, List.length_cons, List.length_nil]; omega))
      rcases List.mem_append.mp hx with hx | hx
      · rcases List.mem_append.mp hx with hx | hx
        · exact .inl (cm hx)
        · exact .inl (cm hx)
      · exact .inl (cm hx)
    refine ⟨_, rfl, rfl, _, rfl, ite2 (fun _ => ?_) (fun _ => ?_)⟩
    · have l_to := cl none (some (r14 % ((xs.length : Int) + 1)))
      have l_next := cl (some (r14 % ((xs.length : Int) + 1) + 1)) none
      refine ⟨_, rfl, _, rfl, _, rfl, c, xs, rfl, s0.seq hS, fun a2 g2 => ?_⟩
      have n2 : Same H1 _ := same_new (o := .lst (cutV xs none (some (r14 % ((xs.length : Int) + 1))))) g2
      have b2 : (upd H1 a2 (.lst (cutV xs none (some (r14 % ((xs.length : Int) + 1)))))) a2 = some (.lst (cutV xs none (some (r14 % ((xs.length : Int) + 1))))) := upd_same
      generalize upd H1 a2 (.lst (cutV xs none (some (r14 % ((xs.length : Int) + 1))))) = H2 at *
      have u2 := s0.trans n2
      refine ⟨_, rfl, r, _, _, _, rfl, rfl, u2.seq hR, a15, _, rfl, _, _, rfl, rfl, (by show (0 : Int) < _; omega), _, rfl, r, _, _, _, rfl, rfl, u2.seq hR, a15, _, _, rfl, rfl, _, rfl, _, _, rfl, rfl, (by show (0 : Int) < _; omega), small200 (by show 2 ≤ 200; decide), fun a3 g3 => ?_⟩
      have n3 : Same H2 _ := same_new (o := .tup [.int (r15 % n), .int ((r15 + 1) % n)]) g3
      have b3 : (upd H2 a3 (.tup [.int (r15 % n), .int ((r15 + 1) % n)])) a3 = some (.tup [.int (r15 % n), .int ((r15 + 1) % n)]) := upd_same
      generalize upd H2 a3 (.tup [.int (r15 % n), .int ((r15 + 1) % n)]) = H3 at *
      have u3 := u2.trans n3
      have b2 := n3 _ _ b2
      have ft : PrAt K H3 (.ref a3) (r15 % n, (r15 + 1) % n) := ⟨a3, rfl, b3⟩
      refine ⟨small200 (by show 1 ≤ 200; decide), fun a4 g4 => ?_⟩
      have n4 : Same H3 _ := same_new (o := .lst ([V.ref a3])) g4
      have b4 : (upd H3 a4 (.lst ([V.ref a3]))) a4 = some (.lst ([V.ref a3])) := upd_same
      generalize upd H3 a4 (.lst ([V.ref a3])) = H4 at *
      have u4 := u3.trans n4
      have b2 := n4 _ _ b2
      have ft := PrAt.mono n4 ft
      refine ⟨a2, a4, _, _, rfl, rfl, b2, b4, small200 (by first | omega | (simp only [List.length_append, List.length_cons, List.length_nil]; omega)), fun a5 g5 => ?_⟩
      have n5 : Same H4 _ := same_new (o := .lst (cutV xs none (some (r14 % ((xs.length : Int) + 1))) ++ [V.ref a3])) g5
      have b5 : (upd H4 a5 (.lst (cutV xs none (some (r14 % ((xs.length : Int) + 1))) ++ [V.ref a3]))) a5 = some (.lst (cutV xs none (some (r14 % ((xs.length : Int) + 1))) ++ [V.ref a3])) := upd_same
      generalize upd H4 a5 (.lst (cutV xs none (some (r14 % ((xs.length : Int) + 1))) ++ [V.ref a3])) = H5 at *
      have u5 := u4.trans n5
      have ft := PrAt.mono n5 ft
      refine ⟨_, rfl, _, rfl, _, _, rfl, rfl, _, rfl, c, xs, rfl, u5.seq hS, fun a6 g6 => ?_⟩
      have n6 : Same H5 _ := same_new (o := .lst (cutV xs (some (r14 % ((xs.length : Int) + 1) + 1)) none)) g6
      have b6 : (upd H5 a6 (.lst (cutV xs (some (r14 % ((xs.length : Int) + 1) + 1)) none))) a6 = some (.lst (cutV xs (some (r14 % ((xs.length : Int) + 1) + 1)) none)) := upd_same
      generalize upd H5 a6 (.lst (cutV xs (some (r14 % ((xs.length : Int) + 1) + 1)) none)) = H6 at *
      have u6 := u5.trans n6
      have b5 := n6 _ _ b5
      have ft := PrAt.mono n6 ft
      refine ⟨a5, a6, _, _, rfl, rfl, b5, b6, small200 (by first | omega | (simp only [List.length_append, List.length_cons, List.length_nil]; omega)), fun a7 g7 => ?_⟩
      refine fin _ a7 _ (u6.trans (same_new g7)) upd_same (fun x hx => ?_) (by first | omega | (simp only [List.length_append, List.length_cons, List.length_nil]; omega))
      rcases List.mem_append.mp hx with hx | hx
      · rcases List.mem_append.mp hx with hx | hx
        · exact .inl (cm hx)
        · rw [List.mem_singleton.mp hx]
          exact .inr ⟨_, PrAt.mono (same_new g7) ft⟩
      · exact .inl (cm hx)
    refine ⟨_, rfl, rfl, _, rfl, ite2 (fun _ => ?_) (fun _ => ?_)⟩
    · have l_to := cl none (some (r14 % ((xs.length : Int) + 1)))
      have l_next := cl (some (r14 % ((xs.length : Int) + 1) + 1)) none
      refine ⟨_, rfl, _, rfl, _, rfl, c, xs, rfl, s0.seq hS, fun a2 g2 => ?_⟩
      have n2 : Same H1 _ := same_new (o := .lst (cutV xs none (some (r14 % ((xs.length : Int) + 1))))) g2
      have b2 : (upd H1 a2 (.lst (cutV xs none (some (r14 % ((xs.length : Int) + 1)))))) a2 = some (.lst (cutV xs none (some (r14 % ((xs.length : Int) + 1))))) := upd_same
      generalize upd H1 a2 (.lst (cutV xs none (some (r14 % ((xs.length : Int) + 1))))) = H2 at *
      have u2 := s0.trans n2
      have fr := PrAt.mono n2 fr
      refine ⟨_, rfl, small200 (by show 1 ≤ 200; decide), fun a3 g3 => ?_⟩
      have n3 : Same H2 _ := same_new (o := .lst ([V.ref f])) g3
      have b3 : (upd H2 a3 (.lst ([V.ref f]))) a3 = some (.lst ([V.ref f])) := upd_same
      generalize upd H2 a3 (.lst ([V.ref f])) = H3 at *
      have u3 := u2.trans n3
      have b2 := n3 _ _ b2
      have fr := PrAt.mono n3 fr
      refine ⟨a2, a3, _, _, rfl, rfl, b2, b3, small200 (by first | omega | (simp only [List.length_append, List.length_cons, List.length_nil]; omega)), fun a4 g4 => ?_⟩
      have n4 : Same H3 _ := same_new (o := .lst (cutV xs none (some (r14 % ((xs.length : Int) + 1))) ++ [V.ref f])) g4
      have b4 : (upd H3 a4 (.lst (cutV xs none (some (r14 % ((xs.length : Int) + 1))) ++ [V.ref f]))) a4 = some (.lst (cutV xs none (some (r14 % ((xs.length : Int) + 1))) ++ [V.ref f])) := upd_same
      generalize upd H3 a4 (.lst (cutV xs none (some (r14 % ((xs.length : Int) + 1))) ++ [V.ref f])) = H4 at *
      have u4 := u3.trans n4
      have fr := PrAt.mono n4 fr
      refine ⟨_, rfl, _, rfl, _, _, rfl, rfl, _, rfl, c, xs, rfl, u4.seq hS, fun a5 g5 => ?_⟩
      have n5 : Same H4 _ := same_new (o := .lst (cutV xs (some (r14 % ((xs.length : Int) + 1) + 1)) none)) g5
      have b5 : (upd H4 a5 (.lst (cutV xs (some (r14 % ((xs.length : Int) + 1) + 1)) none))) a5 = some (.lst (cutV xs (some (r14 % ((xs.length : Int) + 1) + 1)) none)) := upd_same
      generalize upd H4 a5 (.lst (cutV xs (some (r14 % ((xs.length : Int) + 1) + 1)) none)) = H5 at *
      have u5 := u4.trans n5
      have b4 := n5 _ _ b4
      have fr := PrAt.mono n5 fr
      refine ⟨a4, a5, _, _, rfl, rfl, b4, b5, small200 (by first | omega | (simp only [List.length_append, List.length_cons, List.length_nil]; omega)), fun a6 g6 => ?_⟩
      refine fin _ a6 _ (u5.trans (same_new g6)) upd_same (fun x hx => ?_) (by first | omega | (simp only [List.length_append, List.length_cons, List.length_nil]; omega))
      rcases List.mem_append.mp hx with hx | hx
      · rcases List.mem_append.mp hx with hx | hx
        · exact .inl (cm hx)
        · rw [List.mem_singleton.mp hx]
          exact .inr ⟨_, PrAt.mono (same_new g6) fr⟩
      · exact .inl (cm hx)
    refine ⟨_, rfl, rfl, _, rfl, ite2 (fun _ => ?_) (fun _ => ?_)⟩
    · have l_to := cl none (some (r14 % ((xs.length : Int) + 1)))
      have l_next := cl (some (r14 % ((xs.length : Int) + 1) + 1)) none
      refine ⟨_, rfl, _, rfl, _, rfl, c, xs, rfl, s0.seq hS, fun a2 g2 => ?_⟩
      have n2 : Same H1 _ := same_new (o := .lst (cutV xs none (some (r14 % ((xs.length : Int) + 1))))) g2
      have b2 : (upd H1 a2 (.lst (cutV xs none (some (r14 % ((xs.length : Int) + 1)))))) a2 = some (.lst (cutV xs none (some (r14 % ((xs.length : Int) + 1))))) := upd_same
      generalize upd H1 a2 (.lst (cutV xs none (some (r14 % ((xs.length : Int) + 1))))) = H2 at *
      have u2 := s0.trans n2
      have fr := PrAt.mono n2 fr
      refine ⟨_, rfl, small200 (by show 1 ≤ 200; decide), fun a3 g3 => ?_⟩
      have n3 : Same H2 _ := same_new (o := .lst ([V.ref f])) g3
      have b3 : (upd H2 a3 (.lst ([V.ref f]))) a3 = some (.lst ([V.ref f])) := upd_same
      generalize upd H2 a3 (.lst ([V.ref f])) = H3 at *
      have u3 := u2.trans n3
      have b2 := n3 _ _ b2
      have fr := PrAt.mono n3 fr
      refine ⟨a2, a3, _, _, rfl, rfl, b2, b3, small200 (by first | omega | (simp only [List.length_append, List.length_cons, List.length_nil]; omega)), fun a4 g4 => ?_⟩
      have n4 : Same H3 _ := same_new (o := .lst (cutV xs none (some (r14 % ((xs.length : Int) + 1))) ++ [V.ref f])) g4
      have b4 : (upd H3 a4 (.lst (cutV xs none (some (r14 % ((xs.length : Int) + 1))) ++ [V.ref f]))) a4 = some (.lst (cutV xs none (some (r14 % ((xs.length : Int) + 1))) ++ [V.ref f])) := upd_same
      generalize upd H3 a4 (.lst (cutV xs none (some (r14 % ((xs.length : Int) + 1))) ++ [V.ref f])) = H4 at *
      have u4 := u3.trans n4
      have fr := PrAt.mono n4 fr
      refine ⟨_, rfl, _, rfl, _, _, rfl, rfl, _, rfl, c, xs, rfl, u4.seq hS, fun a5 g5 => ?_⟩
      have n5 : Same H4 _ := same_new (o := .lst (cutV xs (some (r14 % ((xs.length : Int) + 1) + 1)) none)) g5
      have b5 : (upd H4 a5 (.lst (cutV xs (some (r14 % ((xs.length : Int) + 1) + 1)) none))) a5 = some (.lst (cutV xs (some (r14 % ((xs.length : Int) + 1) + 1)) none)) := upd_same
      generalize upd H4 a5 (.lst (cutV xs (some (r14 % ((xs.length : Int) + 1) + 1)) none)) = H5 at *
      have u5 := u4.trans n5
      have b4 := n5 _ _ b4
      have fr := PrAt.mono n5 fr
      refine ⟨a4, a5, _, _, rfl, rfl, b4, b5, small200 (by first | omega | (simp only [List.length_append, List.length_cons, List.length_nil]; omega)), fun a6 g6 => ?_⟩
      refine fin _ a6 _ (u5.trans (same_new g6)) upd_same (fun x hx => ?_) (by first | omega | (simp only [List.length_append, List.length_cons, List.length_nil]; omega))
      rcases List.mem_append.mp hx with hx | hx
      · rcases List.mem_append.mp hx with hx | hx
        · exact .inl (cm hx)
        · rw [List.mem_singleton.mp hx]
          exact .inr ⟨_, PrAt.mono (same_new g6) fr⟩
      · exact .inl (cm hx)
    refine ⟨_, rfl, rfl, _, rfl, ite2 (fun _ => ?_) (fun _ => ?_)⟩
    · have l_to := cl none (some (r14 % ((xs.length : Int) + 1)))
      have l_next := cl (some (r14 % ((xs.length : Int) + 1) + 1)) none
      refine ⟨_, rfl, _, rfl, _, rfl, c, xs, rfl, s0.seq hS, fun a2 g2 => ?_⟩
      have n2 : Same H1 _ := same_new (o := .lst (cutV xs none (some (r14 % ((xs.length : Int) + 1))))) g2
      have b2 : (upd H1 a2 (.lst (cutV xs none (some (r14 % ((xs.length : Int) + 1)))))) a2 = some (.lst (cutV xs none (some (r14 % ((xs.length : Int) + 1))))) := upd_same
      generalize upd H1 a2 (.lst (cutV xs none (some (r14 % ((xs.length : Int) + 1))))) = H2 at *
      have u2 := s0.trans n2
      refine ⟨_, rfl, _, rfl, _, _, rfl, rfl, _, rfl, c, xs, rfl, u2.seq hS, fun a3 g3 => ?_⟩
      have n3 : Same H2 _ := same_new (o := .lst (cutV xs (some (r14 % ((xs.length : Int) + 1) + 1)) none)) g3
      have b3 : (upd H2 a3 (.lst (cutV xs (some (r14 % ((xs.length : Int) + 1) + 1)) none))) a3 = some (.lst (cutV xs (some (r14 % ((xs.length : Int) + 1) + 1)) none)) := upd_same
      generalize upd H2 a3 (.lst (cutV xs (some (r14 % ((xs.length : Int) + 1) + 1)) none)) = H3 at *
      have u3 := u2.trans n3
      have b2 := n3 _ _ b2
      refine ⟨a2, a3, _, _, rfl, rfl, b2, b3, small200 (by first | omega | (simp only [List.length_append, List.length_cons, List.length_nil]; omega)), fun a4 g4 => ?_⟩
      refine fin _ a4 _ (u3.trans (same_new g4)) upd_same (fun x hx => ?_) (by first | omega | (simp only [List.length_append, List.length_cons, List.length_nil]; omega))
      rcases List.mem_append.mp hx with hx | hx
      · exact .inl (cm hx)
      · exact .inl (cm hx)
    refine ⟨_, rfl, rfl, _, rfl, ite2 (fun _ => ?_) (fun _ => ?_)⟩
    · have l_to := cl none (some (r14 % ((xs.length : Int) + 1)))
      have l_from := cl (some (r14 % ((xs.length : Int) + 1))) none
      refine ⟨_, rfl, _, rfl, _, rfl, c, xs, rfl, s0.seq hS, fun a2 g2 => ?_⟩
      have n2 : Same H1 _ := same_new (o := .lst (cutV xs none (some (r14 % ((xs.length : Int) + 1))))) g2
      have b2 : (upd H1 a2 (.lst (cutV xs none (some (r14 % ((xs.length : Int) + 1)))))) a2 = some (.lst (cutV xs none (some (r14 % ((xs.length : Int) + 1))))) := upd_same
      generalize upd H1 a2 (.lst (cutV xs none (some (r14 % ((xs.length : Int) + 1))))) = H2 at *
      have u2 := s0.trans n2
      have fr := PrAt.mono n2 fr
      refine ⟨_, rfl, small200 (by show 1 ≤ 200; decide), fun a3 g3 => ?_⟩
      have n3 : Same H2 _ := same_new (o := .lst ([V.ref f])) g3
      have b3 : (upd H2 a3 (.lst ([V.ref f]))) a3 = some (.lst ([V.ref f])) := upd_same
      generalize upd H2 a3 (.lst ([V.ref f])) = H3 at *
      have u3 := u2.trans n3
      have b2 := n3 _ _ b2
      have fr := PrAt.mono n3 fr
      refine ⟨a2, a3, _, _, rfl, rfl, b2, b3, small200 (by first | omega | (simp only [List.length_append, List.length_cons, List.length_nil]; omega)), fun a4 g4 => ?_⟩
      have n4 : Same H3 _ := same_new (o := .lst (cutV xs none (some (r14 % ((xs.length : Int) + 1))) ++ [V.ref f])) g4
      have b4 : (upd H3 a4 (.lst (cutV xs none (some (r14 % ((xs.length : Int) + 1))) ++ [V.ref f]))) a4 = some (.lst (cutV xs none (some (r14 % ((xs.length : Int) + 1))) ++ [V.ref f])) := upd_same
      generalize upd H3 a4 (.lst (cutV xs none (some (r14 % ((xs.length : Int) + 1))) ++ [V.ref f])) = H4 at *
      have u4 := u3.trans n4
      have fr := PrAt.mono n4 fr
      refine ⟨_, rfl, _, rfl, _, rfl, c, xs, rfl, u4.seq hS, fun a5 g5 => ?_⟩
      have n5 : Same H4 _ := same_new (o := .lst (cutV xs (some (r14 % ((xs.length : Int) + 1))) none)) g5
      have b5 : (upd H4 a5 (.lst (cutV xs (some (r14 % ((xs.length : Int) + 1))) none))) a5 = some (.lst (cutV xs (some (r14 % ((xs.length : Int) + 1))) none)) := upd_same
      generalize upd H4 a5 (.lst (cutV xs (some (r14 % ((xs.length : Int) + 1))) none)) = H5 at *
      have u5 := u4.trans n5
      have b4 := n5 _ _ b4
      have fr := PrAt.mono n5 fr
      refine ⟨a4, a5, _, _, rfl, rfl, b4, b5, small200 (by first | omega | (simp only [List.length_append, List.length_cons, List.length_nil]; omega)), fun a6 g6 => ?_⟩
      refine fin _ a6 _ (u5.trans (same_new g6)) upd_same (fun x hx => ?_) (by first | omega | (simp only [List.length_append, List.length_cons, List.length_nil]; omega))
      rcases List.mem_append.mp hx with hx | hx
      · rcases List.mem_append.mp hx with hx | hx
        · exact .inl (cm hx)
        · rw [List.mem_singleton.mp hx]
          exact .inr ⟨_, PrAt.mono (same_new g6) fr⟩
      · exact .inl (cm hx)
    exact ⟨_, rfl, fin _ c xs s0 (s0 _ _ hc) (fun x hx => .inl hx) (by omega)⟩

/-! ### kept just where good: the mathematics -/
theorem crossI_pr (q x : Int × Int) : crossI (pr q.1 q.2) x = crossI q x := by
  obtain ⟨a, b⟩ := q
  show crossI (min a b, max a b) x = _
  rcases Int.le_total a b with h | h
  · rw [Int.min_eq_left h, Int.max_eq_right h]
  · rw [Int.min_eq_right h, Int.max_eq_left h]
    unfold crossI
    dsimp only
    rw [Int.min_comm, Int.max_comm]
    by_cases e : x.1 = b ∨ x.1 = a ∨ x.2 = b ∨ x.2 = a
    · rw [if_pos e, if_pos (by omega)]
    · rw [if_neg e, if_neg (by omega)]
def twoC (m : Nat) : Bool := ((List.range m).all fun i => (List.range m).all fun j => !decide (i < j) || decide ([i, j] ∈ Cb.cmb 2 (List.range m))) && ((Cb.cmb 2 (List.range m)).all fun v => decide (v.getD 0 0 < v.getD 1 0) && decide (v.getD 1 0 < m))
theorem two_dec : ((List.range 10).all twoC) = true := by decide +kernel
theorem two_any {l : List (Int × Int)} (h : l.length ≤ 9) : ((Cb.cmb 2 (List.range l.length)).any (twoB l)) = false ↔ l.Pairwise fun p q => crossI q p = false := by
  have hc := List.all_eq_true.mp two_dec l.length (List.mem_range.mpr (by omega))
  unfold twoC at hc
  rw [Bool.and_eq_true] at hc
  have gd : ∀ i (hi : i < l.length), l.getD i (0, 0) = l[i] := fun i hi => by
    rw [List.getD_eq_getElem?_getD, List.getElem?_eq_getElem hi]; rfl
  rw [List.pairwise_iff_getElem, List.any_eq_false]
  constructor
  · intro h i j hi hj hij
    have := List.all_eq_true.mp (List.all_eq_true.mp hc.1 i (List.mem_range.mpr hi)) j (List.mem_range.mpr hj)
    rw [decide_eq_true hij] at this
    have hm := h _ (of_decide_eq_true this)
    unfold twoB at hm
    have e1 := gd i hi
    have e2 := gd j hj
    have hm : ¬ crossI (l.getD j (0, 0)) (l.getD i (0, 0)) = true := hm
    rw [e1, e2] at hm
    exact Bool.eq_false_iff.mpr hm
  · intro h v hv
    have := List.all_eq_true.mp hc.2 v hv
    rw [Bool.and_eq_true, decide_eq_true_eq, decide_eq_true_eq] at this
    unfold twoB
    rw [gd _ this.2, gd _ (by omega), h _ _ (by omega) this.2 this.1]
    exact Bool.false_ne_true
theorem ropeB_iff {n : Int} {p : Int × Int} : ropeB n p = true ↔ okP n p := by
  obtain ⟨a, b⟩ := p
  unfold ropeB okP
  rw [Bool.and_eq_true, Bool.and_eq_true, Bool.and_eq_true, decide_eq_true_eq, decide_eq_true_eq, decide_eq_true_eq, Bool.not_eq_true', decide_eq_false_iff_not, Prod.mk.injEq]
  dsimp only
  omega
def apart (p q : Int × Int) : Prop := p ≠ q ∧ crossI p q = false ∧ crossI q p = false
theorem good_iff {n : Int} {l : List (Int × Int)} : Good n l ↔ 3 ≤ n ∧ n ≤ 12 ∧ cutB n (sort2 (prL l)) = true := by
  have hp := sort2_perm (prL l)
  have hlen : (sort2 (prL l)).length = l.length := by rw [sort2_len]; unfold prL; rw [List.length_map]
  have at1 : ∀ (i : Nat) (p : Int × Int), l[i]? = some p → (prL l)[i]? = some (pr p.1 p.2) := fun i p h => by unfold prL; rw [List.getElem?_map, h]; rfl
  have at2 : ∀ (i : Nat) (x : Int × Int), (prL l)[i]? = some x → ∃ p, l[i]? = some p ∧ x = pr p.1 p.2 := fun i x h => by
    unfold prL at h
    rw [List.getElem?_map] at h
    cases e : l[i]? with
    | none => rw [e] at h; cases h
    | some p => rw [e] at h; exact ⟨p, rfl, (Option.some.inj h).symm⟩
  -- all in order
  have mid : (3 ≤ n ∧ n ≤ 12 ∧ (l.length : Int) = n - 3 ∧ (∀ x ∈ prL l, okP n x) ∧ (prL l).Pairwise apart) ↔ Good n l := by
    constructor
    · rintro ⟨h1, h2, h3, h4, h5⟩
      refine ⟨h1, h2, h3, fun k p hk => ⟨h4 _ (List.mem_of_getElem? (at1 k p hk)), fun j q hj hq => ?_⟩⟩
      obtain ⟨l1, e1⟩ := List.getElem?_eq_some_iff.mp (at1 j q hq)
      obtain ⟨l2, e2⟩ := List.getElem?_eq_some_iff.mp (at1 k p hk)
      have := List.pairwise_iff_getElem.mp h5 j k l1 l2 hj
      rw [e1, e2] at this
      exact ⟨this.1, by rw [← crossI_pr]; exact this.2.1⟩
    · rintro ⟨h1, h2, h3, h4⟩
      have ok : ∀ x ∈ prL l, okP n x := fun x hx => by
        obtain ⟨i, hi⟩ := List.mem_iff_getElem?.mp hx
        obtain ⟨p, e1, e2⟩ := at2 i x hi
        rw [e2]
        exact (h4 i p e1).1
      refine ⟨h1, h2, h3, ok, List.pairwise_iff_getElem.mpr fun i j hi hj hij => ?_⟩
      obtain ⟨q, e1, e2⟩ := at2 i _ (List.getElem?_eq_getElem hi)
      obtain ⟨p, e3, e4⟩ := at2 j _ (List.getElem?_eq_getElem hj)
      have o1 := ok _ (List.getElem_mem hi)
      have o2 := ok _ (List.getElem_mem hj)
      have h := (h4 j p e3).2 i q hij e1
      have c1 : crossI (prL l)[i] (prL l)[j] = false := by rw [e2, e4, crossI_pr]; exact h.2
      unfold okP at o1 o2
      exact ⟨by rw [e2, e4]; exact h.1, c1, by rw [crossI_symm (by omega) (by omega)]; exact c1⟩
  rw [← mid]
  unfold cutB
  rw [Bool.and_eq_true, Bool.and_eq_true, Bool.and_eq_true, decide_eq_true_eq, decide_eq_true_eq, Bool.not_eq_true', hlen, List.all_eq_true]
  have symm : ∀ {x y : Int × Int}, apart x y → apart y x := fun h => ⟨fun e => h.1 e.symm, h.2.2, h.2.1⟩
  constructor
  · rintro ⟨h1, h2, h3, h4, h5⟩
    have hs := (hp.pairwise_iff symm).mpr h5
    refine ⟨h1, h2, h3, hs.imp fun h => h.1, fun x hx => ropeB_iff.mpr (h4 x (hp.mem_iff.mp hx)), ?_⟩
    rw [← hlen]
    exact (two_any (by omega)).mpr (hs.imp fun h => h.2.2)
  · rintro ⟨h1, h2, h3, h4, h5, h6⟩
    rw [← hlen] at h6
    have hx := (two_any (by omega)).mp h6
    have ok : ∀ x ∈ sort2 (prL l), okP n x := fun x hx => ropeB_iff.mp (h5 x hx)
    refine ⟨h1, h2, h3, fun x hx => ok x (hp.mem_iff.mpr hx), (hp.pairwise_iff symm).mp ?_⟩
    refine (h4.and hx).imp_of_mem fun {x y} mx my h => ?_
    have o1 := ok x mx
    have o2 := ok y my
    unfold okP at o1 o2
    exact ⟨h.1, by rw [crossI_symm (by omega) (by omega)]; exact h.2, h.2⟩

def sp_whole : Sp := fun vs H Q _ => ∃ n : Int, vs = [.int n] ∧ Q (.bl true) H
theorem ok__law_whole (T : Env K mg) : FnOk P w K mg base CX0 1 T.a__law_whole T.fd__law_whole ["_law_found"] sp_whole := by
  refine T.F__law_whole.ok sc__law_whole (fun vs H Q E h => ?_) (fun cdv A outer s H vs Q E hr h => ?_)
  · obtain ⟨n, rfl, _⟩ := h
    rfl
  · obtain ⟨n, rfl, q⟩ := h
    refine ⟨_, (pss_one (ps_ret (pe_and (pe_callB call_isi (by rfl) T.m_isinstance (by decide +kernel) (pa_cons (pv 0) (pa_cons (pe_bltn (v := .ty "int") (u := .type "int") (by rfl) T.m_int (by decide +kernel) rfl) pa_nil))) (pe_one (pe_not (pe_callB call_isi (by rfl) T.m_isinstance (by decide +kernel) (pa_cons (pv 0) (pa_cons (pe_bltn (v := .ty "bool") (u := .type "bool") (by rfl) T.m_bool (by decide +kernel) rfl) pa_nil)))))))), ?_⟩
    refine ⟨_, rfl, _, _, _, _, _, rfl, .ty _, .base (.int _), kit_ty (by decide +kernel), true, rfl, iteT ?_⟩
    exact ⟨_, rfl, _, _, _, _, _, rfl, .ty _, .base (.int _), kit_ty (by decide +kernel), false, rfl, q⟩

def TupAt (H : Hp) (x : V) (ns : List Int) : Prop := ∃ t, x = V.ref t ∧ H t = some (.tup (ns.map V.int))
theorem PrAt.tup {H : Hp} {x : V} {p : Int × Int} (h : PrAt K H x p) : TupAt H x [p.1, p.2] := h
def sp_tuple : Sp := fun vs H Q _ => ∃ (x : V) (ns : List Int), vs = [x, .int (ns.length : Int)] ∧ TupAt H x ns ∧ ns.length ≤ 100 ∧ Q (.bl true) H
theorem ok__law_tuple (T : Env K mg) : FnOk P w K mg base CX0 2 T.a__law_tuple T.fd__law_tuple ["_law_found", "_law_many_here"] sp_tuple := by
  refine T.F__law_tuple.ok sc__law_tuple (fun vs H Q E h => ?_) (fun cdv A outer s H vs Q E hr h => ?_)
  · obtain ⟨x, ns, rfl, _⟩ := h
    rfl
  · obtain ⟨x, ns, rfl, hx, hl, q⟩ := h
    refine ⟨_, (pss_cons (ps_if (PW.pt (pw_or (pt_not (pt_val (pe_callB call_isi (by rfl) T.m_isinstance (by decide +kernel) (pa_cons (pv 0) (pa_cons (pe_bltn (v := .ty "tuple") (u := .type "tuple") (by rfl) T.m_tuple (by decide +kernel) rfl) pa_nil))))) (pw_or1 (pt_cmpR op_ne (pe_callB call_len_seq (by rfl) T.m_len (by decide +kernel) (pa_cons (pv 0) pa_nil)) (pv 1) (nomark _)))))
 (pss_one (ps_ret pe_bl))
 pss_nil)
 (pss_cons (ps_for PassesOwn.never rfl (pi_tup (pv 0)) (pg_name (i := 2) sc__law_tuple.nd rfl (.inl rfl))
 (pss_one (ps_if (pt_not (pt_val (pe_call (ok__law_whole T) (hr.mono (by decide)) (by rfl) T.g__law_whole T.F__law_whole.kp T.b__law_whole .nil pass0 (pa_cons (pv 2) pa_nil))))
 (pss_one (ps_ret pe_bl))
 pss_nil)))
 (pss_one (ps_ret pe_bl)))), ?_⟩
    obtain ⟨p, rfl, hp⟩ := hx
    have hS : SqT K H p (ns.map V.int) := .inl (.inl hp)
    refine ⟨_, rfl, _, _, _, _, _, rfl, .ty _, .base (.tup hp), kit_ty (by decide +kernel), true, rfl, ?_⟩
    show if false = true then _ else _
    rw [if_neg Bool.false_ne_true]
    refine ⟨_, rfl, _, _, rfl, .inr hS, _, rfl, rfl, _, rfl, ?_⟩
    have el : V.int ((ns.map V.int).length : Int) = V.int (ns.length : Int) := by rw [List.length_map]
    refine iteNS el ?_
    refine ⟨_, rfl, p, rfl, ⟨_, hS⟩, for_tup (K := K) (a := p) (xs := ns.map V.int) (fun i σ H' => H' = H ∧ ∃ z, σ = [some (.ref p), some (.int (ns.length : Int)), z]) ⟨rfl, _, rfl⟩ (fun i σ H' _ ⟨e, _⟩ => by rw [e]; exact hS) ?_ ?_⟩
    · rintro i v σ H' hi ⟨rfl, z, rfl⟩
      obtain ⟨n, rfl⟩ : ∃ n, v = .int n := by
        rw [List.getElem?_map] at hi
        cases e : ns[i]? with
        | none => rw [e] at hi; cases hi
        | some m => rw [e] at hi; exact ⟨m, (Option.some.inj hi).symm⟩
      refine ⟨_, rfl, _, rfl, true, rfl, iteF ?_⟩
      exact ⟨rfl, _, rfl⟩
    · rintro σ H' ⟨rfl, z, rfl⟩
      exact q
def sp_list (K : PySem.W.Frag) : Sp := fun vs H Q _ => ∃ (a : Addr) (xs : List V) (m : Nat), vs = [.ref a, .int (m : Int)] ∧ H a = some (.lst xs) ∧ m ≤ 100 ∧ (∀ x ∈ xs, ∃ ns : List Int, TupAt H x ns ∧ ns.length = m) ∧ Q (.bl true) H
theorem ok__law_list (T : Env K mg) : FnOk P w K mg base CX0 3 T.a__law_list T.fd__law_list ["_law_found", "_law_many_here"] (sp_list K) := by
  refine T.F__law_list.ok sc__law_list (fun vs H Q E h => ?_) (fun cdv A outer s H vs Q E hr h => ?_)
  · obtain ⟨a, xs, m, rfl, _⟩ := h
    rfl
  · obtain ⟨a, xs, m, rfl, hA, hm, hx, q⟩ := h
    refine ⟨_, (pss_cons (ps_if (pt_not (pt_val (pe_callB call_isi (by rfl) T.m_isinstance (by decide +kernel) (pa_cons (pv 0) (pa_cons (pe_bltn (v := .ty "list") (u := .type "list") (by rfl) T.m_list (by decide +kernel) rfl) pa_nil)))))
 (pss_one (ps_ret pe_bl))
 pss_nil)
 (pss_cons (ps_for PassesOwn.never rfl (pi_list (pv 0)) (pg_name (i := 2) sc__law_list.nd rfl (.inl rfl))
 (pss_one (ps_if (pt_not (pt_val (pe_call (ok__law_tuple T) (hr.mono (by decide)) (by rfl) T.g__law_tuple T.F__law_tuple.kp T.b__law_tuple .nil pass0 (pa_cons (pv 2) (pa_cons (pv 1) pa_nil)))))
 (pss_one (ps_ret pe_bl))
 pss_nil)))
 (pss_one (ps_ret pe_bl)))), ?_⟩
    have hS : SqL K H a xs := .inl (.inl hA)
    refine ⟨_, rfl, _, _, _, _, _, rfl, .ty _, .base (.lst hA), kit_ty (by decide +kernel), true, rfl, iteF ?_⟩
    refine ⟨_, rfl, a, rfl, ⟨_, hS⟩, for_list (K := K) (a := a) (xs := xs) (fun i σ H' => H' = H ∧ ∃ z, σ = [some (.ref a), some (.int (m : Int)), z]) ⟨rfl, _, rfl⟩ (fun i σ H' _ ⟨e, _⟩ => by rw [e]; exact hS) ?_ ?_⟩
    · rintro i x σ H' hi ⟨rfl, z, rfl⟩
      obtain ⟨ns, h1, h2⟩ := hx x (List.mem_of_getElem? hi)
      subst h2
      refine ⟨_, rfl, _, rfl, x, ns, rfl, h1, hm, true, rfl, iteF ?_⟩
      exact ⟨rfl, _, rfl⟩
    · rintro σ H' ⟨rfl, z, rfl⟩
      exact q
theorem PrL.tup2 {H : Hp} {xs : List V} {l : List (Int × Int)} (h : PrL K H xs l) : ∀ x ∈ xs, ∃ ns : List Int, TupAt H x ns ∧ ns.length = 2 := fun x hx => ⟨_, (h.mem x hx).tup, rfl⟩

def sp_law (K : PySem.W.Frag) : Sp := fun vs H Q _ => ∃ (a : Addr) (ns : List Int), vs = [.ref a] ∧ SqL K H a (ns.map V.int) ∧ ns.length ≤ 63 ∧ ∀ H', Q (.bl true) H'
theorem cut_ok (rs : List Int) (k : Nat) : cutV (rs.map V.int) (some (k : Int)) none = (rs.drop k).map V.int := by rw [cut_drop, List.map_drop]
theorem rowOk_drop {rs : List Int} (h : rowOk rs) (k : Nat) : rowOk (rs.drop k) := fun v hv => h v (List.mem_of_mem_drop hv)
theorem four_at {v0 v1 v2 v3 i : Int} (h0 : 0 ≤ i) (h5 : i < 4) : ∃ v : Int, atI [V.int v0, V.int v1, V.int v2, V.int v3] i = some (.int v) := by
  obtain ⟨v, _, e⟩ := int_atN (rs := [v0, v1, v2, v3]) (k := i.toNat) (by show i.toNat < 4; omega)
  refine ⟨v, ?_⟩
  rw [show i = ((i.toNat : Nat) : Int) by omega]
  exact e
/-- pairs that stand at q -/
structure At (K : PySem.W.Frag) (H : Hp) (q : Addr) (l : List (Int × Int)) : Prop where
  ex : ∃ zs, H q = some (.lst zs) ∧ PrL K H zs l
theorem ok_law (T : Env K mg) : FnOk P w K mg base CX0 4 T.a_law T.fd_law ["_law_script"] (sp_law K) := by
  refine T.F_law.ok sc_law (fun vs H Q E h => ?_) (fun cdv A outer s H vs Q E hr h => ?_)
  · obtain ⟨a, ns, rfl, _⟩ := h
    rfl
  · obtain ⟨a, ns, rfl, hS, hl, q⟩ := h
    refine ⟨_, (pss_cons (ps_set (i := 1) sc_law.nd rfl (.inl rfl) (pe_call (ok__law_flow T) (hr.mono (by decide)) (by rfl) T.g__law_flow T.F__law_flow.kp T.b__law_flow .nil pass0 (pa_cons (pv 0) (pa_cons pe_int pa_nil))))
 (pss_cons (ps_set (i := 2) sc_law.nd rfl (.inl rfl) (pe_call (ok__law_many T) (hr.mono (by decide)) (by rfl) T.g__law_many T.F__law_many.kp T.b__law_many .nil pass0 (pa_cons (pv 1) pa_nil)))
 (pss_cons (ps_set (i := 3) sc_law.nd rfl (.inl rfl) (pe_call (ok__law_ropes T) (hr.mono (by decide)) (by rfl) T.g__law_ropes T.F__law_ropes.kp T.b__law_ropes .nil pass0 (pa_cons (pe_call (ok__law_ears T) (hr.mono (by decide)) (by rfl) T.g__law_ears T.F__law_ears.kp T.b__law_ears .nil pass0 (pa_cons (pv 2) (pa_cons (pe_slice sl_list (pv 1) (po_some pe_int) po_none) pa_nil))) pa_nil)))
 (C8.pss_cut (ps_set (i := 4) sc_law.nd rfl (.inl rfl) (pe_op op_mod (pe_ix ix_list (pv 1) pe_int (fun _ _ => rfl)) (pe_callB (call_max2 rfl) (by rfl) T.m_max (by decide +kernel) (pa_cons pe_int (pa_cons (pe_callB call_len_seq (by rfl) T.m_len (by decide +kernel) (pa_cons (pv 3) pa_nil)) pa_nil)))))
 (pss_cons (ps_set (i := 3) sc_law.nd rfl (.inl rfl) (pe_op op_cat (pe_slice sl_list (pv 3) (po_some (pv 4)) po_none) (pe_slice sl_list (pv 3) po_none (po_some (pv 4)))))
 (pss_cons (ps_for PassesOwn.never rfl (pi_range1 (by rfl) T.m_range (pa_cons (pe_callB call_len_seq (by rfl) T.m_len (by decide +kernel) (pa_cons (pv 3) pa_nil)) pa_nil)) (pg_name (i := 5) sc_law.nd rfl (.inl rfl))
 (pss_one (ps_if (pt_cmpR op_eq (pe_op op_mod (pe_ix ix_list (pv 1) (pe_op op_add pe_int (pv 5)) (fun _ _ => rfl)) pe_int) pe_int (nomark _))
 (pss_one (ps_asg (pe_tup (pa_cons (pe_ix ix_tup (pe_ix ix_list (pv 3) (pv 5) (fun _ _ => rfl)) pe_int (fun _ _ => rfl)) (pa_cons (pe_ix ix_tup (pe_ix ix_list (pv 3) (pv 5) (fun _ _ => rfl)) pe_int (fun _ _ => rfl)) pa_nil))) (pg_sub (pv 3) (pv 5) set_list)))
 pss_nil)))
 (C8.pss_cut (ps_if (pt_cmpR op_eq (pe_op op_mod (pe_ix ix_list (pv 1) pe_int (fun _ _ => rfl)) pe_int) pe_int (nomark _))
 (pss_cons (ps_set (i := 3) sc_law.nd rfl (.inl rfl) (pe_call (ok__law_spoilt T) (hr.mono (by decide)) (by rfl) T.g__law_spoilt T.F__law_spoilt.kp T.b__law_spoilt .nil pass0 (pa_cons (pv 2) (pa_cons (pv 3) (pa_cons (pv 1) pa_nil)))))
 (pss_one (ps_if (pt_cmpR op_eq (pe_op op_mod (pe_ix ix_list (pv 1) pe_int (fun _ _ => rfl)) pe_int) pe_int (nomark _))
 (pss_one (ps_set (i := 2) sc_law.nd rfl (.inl rfl) (pe_ix ix_list (pe_lst (pa_cons (pe_op op_mod (pe_ix ix_list (pv 1) pe_int (fun _ _ => rfl)) pe_int) (pa_cons (pe_op op_add (pv 2) pe_int) (pa_cons (pe_op op_sub (pv 2) pe_int) (pa_cons (pe_un un_neg (pv 2)) pa_nil))))) (pe_op op_mod (pe_ix ix_list (pv 1) pe_int (fun _ _ => rfl)) pe_int) (fun _ _ => rfl))))
 pss_nil)))
 pss_nil)
 (C8.pss_cut (ps_if (pt_cmpR op_eq (pe_op op_mod (pe_op op_fdiv (pe_ix ix_list (pv 1) pe_int (fun _ _ => rfl)) pe_int) pe_int) pe_int (nomark _))
 (pss_one (ps_set (i := 3) sc_law.nd rfl (.inl rfl) (pe_callB cr_sort2 (by rfl) T.m_sorted (by decide +kernel) (pa_cons (pe_lc (own := [("_law_rope", 10)]) (by rfl) sc_law.nd (pi_list (pv 3)) (blkOk_by (own := [("_law_rope", 10)]) (N := ["_law_script", "_law_row", "_law_n", "_law_ropes_here", "_law_move", "_law_k", "_law_handed", "_law_good_here", "_law_found", "e", "_law_rope"]) (sc := defScope s_law) (by decide +kernel)) (fun _ _ _ _ _ => (pg_name (i := 10) sc_law.nd rfl (.inl rfl))) (fun _ _ _ _ _ => pts_nil) (fun _ _ _ _ _ => (pe_call (ok__law_pair T) (hr.mono (by decide)) (by rfl) T.g__law_pair T.F__law_pair.kp T.b__law_pair .nil pass0 (pa_cons (pe_ix (r := rIxT K) ix_tup (pv 10) pe_int (fun _ _ => rfl)) (pa_cons (pe_ix (r := rIxT K) ix_tup (pv 10) pe_int (fun _ _ => rfl)) pa_nil))))) pa_nil))))
 pss_nil)
 (pss_cons (ps_set (i := 6) sc_law.nd rfl (.inl rfl) (pe_callTy call_list_of (by rfl) T.m_list (by decide +kernel) (pa_cons (pv 3) pa_nil)))
 (pss_cons (ps_set (i := 7) sc_law.nd rfl (.inl rfl) (pe_call (ok__law_good T) (hr.mono (by decide)) (by rfl) T.g__law_good T.F__law_good.kp T.b__law_good .nil pass0 (pa_cons (pv 2) (pa_cons (pv 3) pa_nil))))
 (pss_cons (ps_try_as (i := 9) rfl rfl sc_law.nd rfl rfl ⟨rfl, by decide, .inl T.c_MeadError⟩ takes0 (fun W pn xe tk _ => (pss_one (ps_set (i := 8) sc_law.nd rfl (.inl rfl) (pe_callS (ok_kept T) (hr.mono (by decide)) (by rfl) T.g_kept T.F_kept.kp T.b_kept (fun σ => passAt tk σ) (pa_cons (pv 2) (pa_cons (pv 6) pa_nil)))))) (fun a oe cls d pn hz hf => (pss_guard (P := cls = .ref T.C_NoCutting ∧ d = none) (fun hP => (pss_one (ps_ret (pe_and (pe_not (pv 7)) (pe_and (pe_callB (call_isE T.e_NoCutting (zc_of hz hP) hf) (by rfl) T.m_isinstance (by decide +kernel) (pa_cons (pv 9) (pa_cons (pe_glob (v := .ref T.C_NoCutting) rfl T.c_NoCutting rfl) pa_nil))) (pe_one (pe_cmpR (r := rEqL2 K false) (op_eqL2 (by have h_ := hr.units; exact h_)) (pv 6) (pv 3) (nomark _)))))))))))
 (pss_cons (ps_if (PW.pt (pw_or (pt_not (pt_val (pv 7))) (pw_or1 (pt_cmpR (op_neL2 (by have h_ := hr.units; exact h_)) (pv 6) (pv 3) (nomark _)))))
 (pss_one (ps_ret pe_bl))
 pss_nil)
 (pss_cons (ps_if (PW.pt (pw_or (pt_not (pt_val (pe_call (ok__law_list T) (hr.mono (by decide)) (by rfl) T.g__law_list T.F__law_list.kp T.b__law_list .nil pass0 (pa_cons (pv 8) (pa_cons pe_int pa_nil))))) (pw_or1 (pt_cmpR (op_neL2 (by have h_ := hr.units; exact h_)) (pv 8) (pe_callB cr_sort2 (by rfl) T.m_sorted (by decide +kernel) (pa_cons (pe_lc (own := [("_law_rope", 10)]) (by rfl) sc_law.nd (pi_list (pv 3)) (blkOk_by (own := [("_law_rope", 10)]) (N := ["_law_script", "_law_row", "_law_n", "_law_ropes_here", "_law_move", "_law_k", "_law_handed", "_law_good_here", "_law_found", "e", "_law_rope"]) (sc := defScope s_law) (by decide +kernel)) (fun _ _ _ _ _ => (pg_name (i := 10) sc_law.nd rfl (.inl rfl))) (fun _ _ _ _ _ => pts_nil) (fun _ _ _ _ _ => (pe_call (ok__law_pair T) (hr.mono (by decide)) (by rfl) T.g__law_pair T.F__law_pair.kp T.b__law_pair .nil pass0 (pa_cons (pe_ix (r := rIxT K) ix_tup (pv 10) pe_int (fun _ _ => rfl)) (pa_cons (pe_ix (r := rIxT K) ix_tup (pv 10) pe_int (fun _ _ => rfl)) pa_nil))))) pa_nil)) (nomark _)))))
 (pss_one (ps_ret pe_bl))
 pss_nil)
 (pss_cons (ps_expr (pe_bm PySem.F.plainAttrs_list PySem.F.slot_list_append PySem.F.type_list_append mt_append (pv 8) (pa_cons (pe_tup (pa_cons pe_int (pa_cons pe_int pa_nil))) pa_nil)))
 (pss_one (ps_ret (pe_cmpR (op_eqL2 (by have h_ := hr.units; exact h_)) (pv 6) (pv 3) (nomark _)))))))))))))))))), ?_⟩
    refine ⟨_, rfl, a, ns, 30, rfl, hS, hl, by decide, by decide, fun H1 p rs hs hp hlen hro hrow => ?_⟩
    have hlen : rs.length = 30 := hlen
    have hR : ∀ {H2}, Same H1 H2 → SqL K H2 p (rs.map V.int) := fun s => .inl (.inl (s _ _ hrow))
    obtain ⟨r2, m2, a2⟩ := int_at (rs := rs) (k := 2) (by omega)
    obtain ⟨r3, m3, a3⟩ := int_at (rs := rs) (k := 3) (by omega)
    obtain ⟨r13, m13, a13⟩ := int_at (rs := rs) (k := 13) (by omega)
    obtain ⟨r14, m14, a14⟩ := int_at (rs := rs) (k := 14) (by omega)
    obtain ⟨r15, m15, a15⟩ := int_at (rs := rs) (k := 15) (by omega)
    refine ⟨_, rfl, p, rs, rfl, hR (Same.refl _), by omega, fun n h3 h12 => ?_⟩
    refine ⟨_, rfl, _, rfl, 4, rfl, p, _, rfl, hR (Same.refl _), fun q1 hq1 => ?_⟩
    have s1 : Same H1 _ := same_new (o := .lst (cutV (rs.map V.int) (some 4) none)) hq1
    have e1 : (upd H1 q1 (.lst (cutV (rs.map V.int) (some 4) none))) q1 = some (.lst ((rs.drop 4).map V.int)) := by rw [upd_same, show (4 : Int) = ((4 : Nat) : Int) from rfl, cut_ok]
    generalize upd H1 q1 (.lst (cutV (rs.map V.int) (some 4) none)) = H2 at *
    refine ⟨n, q1, rs.drop 4, rfl, h3, h12, .inl (.inl e1), by rw [List.length_drop]; omega, rowOk_drop hro 4, fun H3 o xs es s2 no ho hE hel hC => ?_⟩
    refine ⟨o, xs, es, rfl, ho, hE, by omega, fun H4 c ys s3 nc hc hY => ?_⟩
    have hcl : ((sort2 (es.map earR)).length : Int) = n - 3 := by rw [sort2_len, List.length_map]; exact hel
    generalize sort2 (es.map earR) = cut at *
    have s5 := (s1.trans s2).trans s3
    clear s1 e1 s2 no ho hE hel hC s3 nc
    have hyl := hY.length
    have hSC : SqL K H4 c ys := .inl (.inl hc)
    have hmx : (0 : Int) < (if (ys.length : Int) > 1 then (ys.length : Int) else 1) := by split <;> omega
    have hm0 : 0 ≤ r2 % (if (ys.length : Int) > 1 then (ys.length : Int) else 1) := Int.emod_nonneg _ (by omega)
    refine ⟨fun σ' H' => H' = H4 ∧ ∃ m : Nat, σ' = [some (V.ref a), some (V.ref p), some (V.int n), some (V.ref c), some (V.int (m : Int)), none, none, none, none, none, none], ?_, ?_⟩
    · exact ⟨_, rfl, p, _, _, _, rfl, rfl, hR s5, a2, _, rfl, _, _, rfl, .inl hSC, _, _, rfl, _, _, rfl, rfl, hmx, rfl, _, congrArg (fun z : Int => [some (V.ref a), some (V.ref p), some (V.int n), some (V.ref c), some (V.int z), none, none, none, none, none, none]) (Int.toNat_of_nonneg hm0).symm⟩
    clear hm0 hmx
    rintro _ H4 ⟨rfl, m, rfl⟩
    refine ⟨_, rfl, _, rfl, _, rfl, c, ys, rfl, hSC, fun b1 g1 => ?_⟩
    have n1 : Same H4 _ := same_new (o := .lst (cutV ys (some (m : Int)) none)) g1
    have f1 : (upd H4 b1 (.lst (cutV ys (some (m : Int)) none))) b1 = some (.lst (cutV ys (some (m : Int)) none)) := upd_same
    generalize upd H4 b1 (.lst (cutV ys (some (m : Int)) none)) = H5 at *
    refine ⟨_, rfl, _, rfl, _, rfl, c, ys, rfl, n1.seq hSC, fun b2 g2 => ?_⟩
    have n2 : Same H5 _ := same_new (o := .lst (cutV ys none (some (m : Int)))) g2
    have f2 : (upd H5 b2 (.lst (cutV ys none (some (m : Int))))) b2 = some (.lst (cutV ys none (some (m : Int)))) := upd_same
    generalize upd H5 b2 (.lst (cutV ys none (some (m : Int)))) = H6 at *
    have lN : (cutV ys (some (m : Int)) none ++ cutV ys none (some (m : Int))).length = ys.length := by
      rw [cut_drop, cut_take, List.length_append, List.length_drop, List.length_take]
      omega
    have lN2 := lN
    rw [List.length_append] at lN2
    refine ⟨b1, b2, _, _, rfl, rfl, n2 _ _ f1, f2, small200 (by omega), fun q0 g3 => ?_⟩
    have s6 := s5.trans (n1.trans n2)
    have cm : ∀ x ∈ cutV ys (some (m : Int)) none ++ cutV ys none (some (m : Int)), x ∈ ys := fun x hx => by
      rcases List.mem_append.mp hx with hx | hx
      · exact List.mem_of_mem_drop (List.mem_of_mem_take hx)
      · exact List.mem_of_mem_drop (List.mem_of_mem_take hx)
    generalize cutV ys (some (m : Int)) none ++ cutV ys none (some (m : Int)) = zs0 at *
    have n3 : Same H6 _ := same_new (o := .lst zs0) g3
    have f3 : (upd H6 q0 (.lst zs0)) q0 = some (.lst zs0) := upd_same
    generalize upd H6 q0 (.lst zs0) = H7 at *
    have hY7 := hY.mono ((n1.trans n2).trans n3)
    obtain ⟨l0, hP0⟩ := pl_of_mem (K := K) (H := H7) (xs := zs0) fun x hx => ⟨_, hY7.mem x (cm x hx)⟩
    have hN : zs0.length ≤ 9 := by omega
    clear n1 n2 f1 f2 g1 g2 lN lN2 cm hY7 hSC hc hY s5
    refine ⟨_, rfl, _, _, rfl, .inl (.inl (.inl f3)), (zs0.length : Int), rfl, by omega, by omega, for_range (lo := 0) (n := zs0.length) (fun i σ H' => Same H6 H' ∧ (∃ y, σ = [some (.ref a), some (.ref p), some (.int n), some (.ref q0), some (.int (m : Int)), y, none, none, none, none, none]) ∧ ∃ zs l, H' q0 = some (.lst zs) ∧ PrL K H' zs l ∧ zs.length = zs0.length) ⟨n3, ⟨_, rfl⟩, zs0, l0, f3, hP0, rfl⟩ ?_ ?_⟩
    · rintro i σ H' hi ⟨s7, ⟨y, rfl⟩, zs, l, hz, hP, hzl⟩
      obtain ⟨rv, mv, av⟩ := int_at (rs := rs) (k := 18 + i) (by omega)
      have av' : atI (rs.map V.int) (18 + (0 + (i : Int))) = some (.int rv) := by
        rw [show (18 + (0 + (i : Int))) = ((18 + i : Nat) : Int) by omega]
        exact av
      refine ⟨_, rfl, _, rfl, _, _, rfl, rfl, p, _, _, _, rfl, rfl, hR (s6.trans s7), av', _, _, rfl, rfl, (by show (0 : Int) < _; decide), rfl, _, rfl, ite2 (fun _ => ?_) (fun _ => ⟨s7, ⟨_, rfl⟩, zs, l, hz, hP, hzl⟩)⟩
      have hPl := hP.length
      obtain ⟨pp, hpp⟩ : ∃ pp, l[i]? = some pp := ⟨_, List.getElem?_eq_getElem (by omega)⟩
      obtain ⟨v, ev, t, rfl, ht⟩ := hP.at' hpp
      have hT : SqT K H' t [.int pp.1, .int pp.2] := .inl (.inl ht)
      have hZ : SqL K H' q0 zs := .inl (.inl hz)
      have eu0 : atI zs (0 + (i : Int)) = some (.ref t) := by rw [Int.zero_add]; exact atI_nat ev
      have ei : ixN zs.length (0 + (i : Int)) = some i := by
        unfold ixN
        rw [if_pos (by omega), if_pos (by omega)]
        exact congrArg some (by omega)
      refine ⟨_, rfl, _, rfl, q0, zs, _, .ref t, rfl, rfl, hZ, eu0, t, _, _, _, rfl, rfl, hT, atI_nat (j := 1) rfl, _, rfl, _, rfl, q0, zs, _, .ref t, rfl, rfl, hZ, eu0, t, _, _, _, rfl, rfl, hT, atI_nat (j := 0) rfl, small200 (by show 2 ≤ 200; decide), fun u hu => ?_⟩
      have n4 : Same H' _ := same_new (o := .tup [.int pp.2, .int pp.1]) hu
      have f4 : (upd H' u (.tup [.int pp.2, .int pp.1])) u = some (.tup [.int pp.2, .int pp.1]) := upd_same
      generalize upd H' u (.tup [.int pp.2, .int pp.1]) = H8 at *
      refine ⟨_, rfl, _, rfl, q0, zs, _, i, rfl, rfl, n4 _ _ hz, ei, ?_⟩
      have ts := TupS.put (o := .lst (zs.set i (.ref u))) (n4 _ _ hz)
      have hP8 := (hP.mono n4).tups ts
      obtain ⟨l', hl'⟩ := pl_of_mem (K := K) (H := upd H8 q0 (.lst (zs.set i (.ref u)))) (xs := zs.set i (.ref u)) fun x hx => by
        rcases List.mem_or_eq_of_mem_set hx with h | h
        · exact ⟨_, hP8.mem x h⟩
        · rw [h]
          exact ⟨(pp.2, pp.1), u, rfl, ts _ _ f4⟩
      exact ⟨same_put (s7.trans n4) g3, ⟨_, rfl⟩, _, l', upd_same, hl', by rw [List.length_set]; exact hzl⟩
    · rintro σ H8 ⟨s7, ⟨y, rfl⟩, zs, l, hz, hP, hzl⟩
      have hPl := hP.length
      have s8 := s6.trans s7
      refine ⟨fun σ' H' => Same H1 H' ∧ ∃ (n : Int) (q1 : Addr) (zs : List V) (l : List (Int × Int)), σ' = [some (.ref a), some (.ref p), some (.int n), some (.ref q1), some (.int (m : Int)), y, none, none, none, none, none] ∧ H' q1 = some (.lst zs) ∧ PrL K H' zs l ∧ l.length ≤ 40, ?_, ?_⟩
      · refine ⟨_, rfl, p, _, _, _, rfl, rfl, hR s8, a3, _, _, rfl, rfl, (by show (0 : Int) < _; decide), rfl, _, rfl, ite2 (fun _ => ?_) (fun _ => ⟨s8, n, q0, zs, l, rfl, hz, hP, by omega⟩)⟩
        refine ⟨_, rfl, _, rfl, _, rfl, n, q0, p, zs, l, rs, rfl, h3, h12, hz, hP, by omega, hR s8, by omega, fun H9 q1 zs1 l1 s9 hz1 hP1 hl1 => ?_⟩
        have s89 := s8.trans s9
        refine ⟨_, rfl, p, _, _, _, rfl, rfl, hR s89, a13, _, _, rfl, rfl, (by show (0 : Int) < _; decide), rfl, _, rfl, ite2 (fun _ => ?_) (fun _ => ⟨s89, n, q1, zs1, l1, rfl, hz1, hP1, hl1⟩)⟩
        have k0 := Int.emod_nonneg r15 (show (4 : Int) ≠ 0 by decide)
        have k1 := Int.emod_lt_of_pos r15 (show (0 : Int) < 4 by decide)
        obtain ⟨v, ev⟩ := four_at (v0 := r14 % 16) (v1 := n + 1) (v2 := n - 1) (v3 := -n) k0 k1
        refine ⟨_, rfl, p, _, _, _, rfl, rfl, hR s89, a14, _, _, rfl, rfl, (by show (0 : Int) < _; decide), _, rfl, _, _, rfl, rfl, _, rfl, _, _, rfl, rfl, _, rfl, _, rfl, small200 (by show 4 ≤ 200; decide), fun d hd => ?_⟩
        have s10 : Same H9 _ := same_new (o := .lst [V.int (r14 % 16), V.int (n + 1), V.int (n - 1), V.int (-n)]) hd
        refine ⟨_, rfl, p, _, _, _, rfl, rfl, hR (s89.trans s10), a15, _, _, rfl, rfl, (by show (0 : Int) < _; decide), d, _, _, V.int v, rfl, rfl, .inl (.inl upd_same), ev, ?_⟩
        exact ⟨s89.trans s10, v, q1, zs1, l1, rfl, s10 _ _ hz1, hP1.mono s10, hl1⟩
      clear s6 s7 s8 hz hP hzl hPl f3 hP0 n3 g3 h3 h12 hcl hyl
      rintro _ H9 ⟨s9, n, q1, zs, l, rfl, hz, hP, hl40⟩
      refine ⟨fun σ' H' => Same H1 H' ∧ ∃ (q1 : Addr) (zs : List V) (l : List (Int × Int)), σ' = [some (.ref a), some (.ref p), some (.int n), some (.ref q1), some (.int (m : Int)), y, none, none, none, none, none] ∧ H' q1 = some (.lst zs) ∧ PrL K H' zs l ∧ l.length ≤ 40, ?_, ?_⟩
      · refine ⟨_, rfl, p, _, _, _, rfl, rfl, hR s9, a2, _, _, rfl, rfl, ⟨by decide, by decide⟩, _, _, rfl, rfl, (by show (0 : Int) < _; decide), rfl, _, rfl, ite2 (fun _ => ?_) (fun _ => ⟨s9, q1, zs, l, rfl, hz, hP, hl40⟩)⟩
        have hPl := hP.length
        refine ⟨_, rfl, q1, rfl, ⟨_, .inl (.inl hz)⟩, fun D hD => ?_⟩
        refine lc_list (K := K) (a := q1) (xs := zs) (fun i H' => ∃ ws, Same H9 H' ∧ H' D = some (.lst ws) ∧ PrL K H' ws (prL (l.take i))) ⟨[], same_new hD, upd_same, by rw [List.take_zero]; exact .nil⟩ ?_ ?_ ?_
        · rintro i H' _ ⟨ws, s3, _, _⟩
          exact .inl (.inl (s3 _ _ hz))
        · rintro i x' H' hi ⟨ws, s3, hzz, hW⟩
          obtain ⟨pp, hpp, t, rfl, ht⟩ := hP.at hi
          have hwl := hW.length
          rw [List.length_map, List.length_take] at hwl
          have hTT : SqT K H' t [.int pp.1, .int pp.2] := .inl (.inl (s3 _ _ ht))
          refine ⟨rfl, yes_read ?_⟩
          refine ⟨_, rfl, t, _, _, _, rfl, rfl, hTT, atI_nat (j := 0) rfl, _, rfl, t, _, _, _, rfl, rfl, hTT, atI_nat (j := 1) rfl, pp.1, pp.2, rfl, fun u hu => ?_⟩
          have s4 : Same H' _ := same_new (o := .tup [.int (pr pp.1 pp.2).1, .int (pr pp.1 pp.2).2]) hu
          have hu2 : (upd H' u (.tup [.int (pr pp.1 pp.2).1, .int (pr pp.1 pp.2).2])) u = some (.tup [.int (pr pp.1 pp.2).1, .int (pr pp.1 pp.2).2]) := upd_same
          generalize upd H' u (.tup [.int (pr pp.1 pp.2).1, .int (pr pp.1 pp.2).2]) = H4' at *
          refine ⟨ws, s4 _ _ hzz, small200' (by omega), ws ++ [.ref u], ?_, upd_same, ?_⟩
          · intro b' o eb
            rw [upd_ne (ne_of_none eb hD)]
            exact s4 _ _ (s3 _ _ eb)
          · have em : prL (l.take (i + 1)) = prL (l.take i) ++ [pr pp.1 pp.2] := by rw [take_more hpp]; unfold prL; rw [List.map_append]; rfl
            rw [em]
            have ts := TupS.put (o := .lst (ws ++ [.ref u])) (s4 _ _ hzz)
            exact ((hW.mono s4).tups ts).app (.one ⟨u, rfl, ts _ _ hu2⟩)
        · rintro HA ⟨ws, sA, hzA, hW⟩
          rw [List.take_of_length_le (by omega)] at hW
          refine ⟨D, ws, _, rfl, .inl (.inl hzA), hW, fun zs2 g hz2 hg => ?_⟩
          have sB : Same HA _ := same_new (o := .lst zs2) hg
          exact ⟨s9.trans (sA.trans sB), g, zs2, _, rfl, upd_same, hz2.mono sB, by rw [sort2_len, List.length_map]; exact hl40⟩
      clear hz hP hl40 s9
      rintro _ H9 ⟨s9, q1, zs, l, rfl, hz, hP, hl40⟩
      have hPl := hP.length
      refine ⟨_, rfl, q1, zs, rfl, .inl (.inl (.inl hz)), fun h hh => ?_⟩
      have sA : Same H9 _ := same_new (o := .lst zs) hh
      have hh2 : (upd H9 h (.lst zs)) h = some (.lst zs) := upd_same
      generalize upd H9 h (.lst zs) = HA at *
      have hzA := sA _ _ hz
      have hPA := hP.mono sA
      refine ⟨_, rfl, _, rfl, n, q1, zs, l, rfl, .inl (.inl hzA), hPA, by omega, fun b HB hb sB => ?_⟩
      have hhB := sB _ _ hh2
      have hzB := sB _ _ hzA
      have hPB := hPA.mono sB
      refine ⟨_, rfl, _, rfl, n, h, zs, l, rfl, hhB, hPB, by omega, fun hn HC sC => ?_, fun h3 h12 hcut HC f fs sC nf hf hF => ?_⟩
      · have hbf : b = false := by
          cases b with
          | false => rfl
          | true => exact absurd (good_iff.mp (hb.mp rfl)) hn
        subst hbf
        have hzC := sC _ _ hzB
        have hhC := sC _ _ hhB
        have hPC := hPB.mono sC
        refine ⟨true, PySem.W.exm_ref T.bs_MeadError T.e_MeadError.hd T.ty_MeadError T.sub_NoCutting_MeadError, fun _ e he => ⟨⟨rfl, rfl⟩, ?_⟩, fun z => nomatch z⟩
        refine ⟨_, rfl, _, rfl, _, rfl, ?_⟩
        show if true = true then _ else _
        refine iteT ?_
        refine ⟨_, rfl, _, _, _, rfl, (fun _ z => z), T.kit_NoCutting_NoCutting, _, rfl, ?_⟩
        refine iteT ?_
        refine ⟨_, rfl, _, rfl, h, q1, zs, zs, l, l, rfl, rfl, .inl (.inl hhC), hPC, .inl (.inl hzC), hPC, by omega, by omega, ?_⟩
        show Q (.bl (decide (l = l))) HC
        rw [decide_eq_true rfl]
        exact q _
      · have hbt : b = true := hb.mpr (good_iff.mpr ⟨h3, h12, hcut⟩)
        subst hbt
        have hzC := sC _ _ hzB
        have hhC := sC _ _ hhB
        have hPC := hPB.mono sC
        refine ⟨_, rfl, _, rfl, ?_⟩
        show if false = true then _ else _
        refine iteF ?_
        refine ⟨_, rfl, _, rfl, h, q1, zs, zs, l, l, rfl, rfl, .inl (.inl hhC), hPC, .inl (.inl hzC), hPC, by omega, by omega, _, rfl, ?_⟩
        show if (!decide (l = l)) = true then _ else _
        rw [decide_eq_true rfl]
        refine iteF ?_
        refine ⟨_, rfl, f, fs, 2, rfl, hf, by decide, hF.tup2, true, rfl, iteF ?_⟩
        have hFl := hF.length
        have hsl : (sort2 (prL l)).length ≤ 60 := by
          rw [sort2_len]
          unfold prL
          rw [List.length_map]
          omega
        have qf : q1 ≠ f := ne_of_none hzB nf
        have hf' : h ≠ f := ne_of_none hhB nf
        refine ⟨_, rfl, _, rfl, q1, rfl, ⟨_, .inl (.inl hzC)⟩, fun D hD => ?_⟩
        refine lc_list (K := K) (a := q1) (xs := zs) (fun i H' => ∃ ws, Same HC H' ∧ H' D = some (.lst ws) ∧ PrL K H' ws (prL (l.take i))) ⟨[], same_new hD, upd_same, by rw [List.take_zero]; exact .nil⟩ ?_ ?_ ?_
        · rintro i H' _ ⟨ws, s3, _, _⟩
          exact .inl (.inl (s3 _ _ hzC))
        · rintro i x' H' hi ⟨ws, s3, hzz, hW⟩
          obtain ⟨pp, hpp, t, rfl, ht⟩ := hPC.at hi
          have hwl := hW.length
          rw [List.length_map, List.length_take] at hwl
          have hTT : SqT K H' t [.int pp.1, .int pp.2] := .inl (.inl (s3 _ _ ht))
          refine ⟨rfl, yes_read ?_⟩
          refine ⟨_, rfl, t, _, _, _, rfl, rfl, hTT, atI_nat (j := 0) rfl, _, rfl, t, _, _, _, rfl, rfl, hTT, atI_nat (j := 1) rfl, pp.1, pp.2, rfl, fun u hu => ?_⟩
          have s4 : Same H' _ := same_new (o := .tup [.int (pr pp.1 pp.2).1, .int (pr pp.1 pp.2).2]) hu
          have hu2 : (upd H' u (.tup [.int (pr pp.1 pp.2).1, .int (pr pp.1 pp.2).2])) u = some (.tup [.int (pr pp.1 pp.2).1, .int (pr pp.1 pp.2).2]) := upd_same
          generalize upd H' u (.tup [.int (pr pp.1 pp.2).1, .int (pr pp.1 pp.2).2]) = H4' at *
          refine ⟨ws, s4 _ _ hzz, small200' (by omega), ws ++ [.ref u], ?_, upd_same, ?_⟩
          · intro b' o eb
            rw [upd_ne (ne_of_none eb hD)]
            exact s4 _ _ (s3 _ _ eb)
          · have em : prL (l.take (i + 1)) = prL (l.take i) ++ [pr pp.1 pp.2] := by rw [take_more hpp]; unfold prL; rw [List.map_append]; rfl
            rw [em]
            have ts := TupS.put (o := .lst (ws ++ [.ref u])) (s4 _ _ hzz)
            exact ((hW.mono s4).tups ts).app (.one ⟨u, rfl, ts _ _ hu2⟩)
        · rintro HD ⟨ws, sD, hzD, hW⟩
          rw [List.take_of_length_le (by omega)] at hW
          refine ⟨D, ws, _, rfl, .inl (.inl hzD), hW, fun zs2 g hz2 hg => ?_⟩
          have sE : Same HD _ := same_new (o := .lst zs2) hg
          have hg2 : (upd HD g (.lst zs2)) g = some (.lst zs2) := upd_same
          have hz2' := hz2.mono sE
          generalize upd HD g (.lst zs2) = HE at *
          have sCE := sD.trans sE
          have hfE := sCE _ _ hf
          refine ⟨f, g, fs, zs2, sort2 (prL l), sort2 (prL l), rfl, rfl, .inl (.inl hfE), hF.mono sCE, .inl (.inl hg2), hz2', by omega, by omega, _, rfl, ?_⟩
          show if (!decide (sort2 (prL l) = sort2 (prL l))) = true then _ else _
          rw [decide_eq_true rfl]
          refine iteF ?_
          refine ⟨_, rfl, .inl ⟨rfl, _, .inl (.inl hfE)⟩, small200 (by show 2 ≤ 200; decide), fun u hu => ?_⟩
          have sF : Same HE _ := same_new (o := .tup [.int 0, .int 2]) hu
          generalize upd HE u (.tup [.int 0, .int 2]) = HF at *
          refine ⟨f, fs, _, rfl, rfl, sF _ _ hfE, small200' (by omega), ?_⟩
          have ts := TupS.put (o := .lst (fs ++ [.ref u])) (sF _ _ hfE)
          have hz9 : (upd HF f (.lst (fs ++ [.ref u]))) q1 = some (.lst zs) := by rw [upd_ne qf]; exact sF _ _ (sCE _ _ hzC)
          have hh9 : (upd HF f (.lst (fs ++ [.ref u]))) h = some (.lst zs) := by rw [upd_ne hf']; exact sF _ _ (sCE _ _ hhC)
          have hP9 := (hPC.mono (sCE.trans sF)).tups ts
          refine ⟨_, rfl, _, rfl, h, q1, zs, zs, l, l, rfl, rfl, .inl (.inl hh9), hP9, .inl (.inl hz9), hP9, by omega, by omega, ?_⟩
          show Q (.bl (decide (l = l))) _
          rw [decide_eq_true rfl]
          exact q _

theorem all_mk {l : PySem.W.OpenLaw} {w : World} {K : PySem.W.Frag} {h : Heap} {mg : Str → Option Value} {fa C_MeadError C_NoCutting f_pair_of f_crosses f_kept f_is_cutting f_is_rope f__law_flow f__law_whole f__law_many f__law_pair f__law_ears f__law_ropes f__law_cross f__law_tuple f__law_list f__law_good f__law_spoilt f_law : Addr} (X : K.In h) (G : h.Ns mainGlobals mg) (hfa : mg "law" = some (.ref fa))
    {od_pair_of an_pair_of : Option Addr} {sl_pair_of : Array (Option Value)} {oc_pair_of kV_pair_of dc_pair_of pm_pair_of cd_pair_of ct_pair_of : Value}
    {od_crosses an_crosses : Option Addr} {sl_crosses : Array (Option Value)} {oc_crosses kV_crosses dc_crosses pm_crosses cd_crosses ct_crosses : Value}
    {od_kept an_kept : Option Addr} {sl_kept : Array (Option Value)} {oc_kept kV_kept dc_kept pm_kept cd_kept ct_kept : Value}
    {od_is_cutting an_is_cutting : Option Addr} {sl_is_cutting : Array (Option Value)} {oc_is_cutting kV_is_cutting dc_is_cutting pm_is_cutting cd_is_cutting ct_is_cutting : Value}
    {od_is_rope an_is_rope : Option Addr} {sl_is_rope : Array (Option Value)} {oc_is_rope kV_is_rope dc_is_rope pm_is_rope cd_is_rope ct_is_rope : Value}
    {od__law_flow an__law_flow : Option Addr} {sl__law_flow : Array (Option Value)} {oc__law_flow kV__law_flow dc__law_flow pm__law_flow cd__law_flow ct__law_flow : Value}
    {od__law_whole an__law_whole : Option Addr} {sl__law_whole : Array (Option Value)} {oc__law_whole kV__law_whole dc__law_whole pm__law_whole cd__law_whole ct__law_whole : Value}
    {od__law_many an__law_many : Option Addr} {sl__law_many : Array (Option Value)} {oc__law_many kV__law_many dc__law_many pm__law_many cd__law_many ct__law_many : Value}
    {od__law_pair an__law_pair : Option Addr} {sl__law_pair : Array (Option Value)} {oc__law_pair kV__law_pair dc__law_pair pm__law_pair cd__law_pair ct__law_pair : Value}
    {od__law_ears an__law_ears : Option Addr} {sl__law_ears : Array (Option Value)} {oc__law_ears kV__law_ears dc__law_ears pm__law_ears cd__law_ears ct__law_ears : Value}
    {od__law_ropes an__law_ropes : Option Addr} {sl__law_ropes : Array (Option Value)} {oc__law_ropes kV__law_ropes dc__law_ropes pm__law_ropes cd__law_ropes ct__law_ropes : Value}
    {od__law_cross an__law_cross : Option Addr} {sl__law_cross : Array (Option Value)} {oc__law_cross kV__law_cross dc__law_cross pm__law_cross cd__law_cross ct__law_cross : Value}
    {od__law_tuple an__law_tuple : Option Addr} {sl__law_tuple : Array (Option Value)} {oc__law_tuple kV__law_tuple dc__law_tuple pm__law_tuple cd__law_tuple ct__law_tuple : Value}
    {od__law_list an__law_list : Option Addr} {sl__law_list : Array (Option Value)} {oc__law_list kV__law_list dc__law_list pm__law_list cd__law_list ct__law_list : Value}
    {od__law_good an__law_good : Option Addr} {sl__law_good : Array (Option Value)} {oc__law_good kV__law_good dc__law_good pm__law_good cd__law_good ct__law_good : Value}
    {od__law_spoilt an__law_spoilt : Option Addr} {sl__law_spoilt : Array (Option Value)} {oc__law_spoilt kV__law_spoilt dc__law_spoilt pm__law_spoilt cd__law_spoilt ct__law_spoilt : Value}
    {od_law an_law : Option Addr} {sl_law : Array (Option Value)} {oc_law kV_law dc_law pm_law cd_law ct_law : Value}
    {tk_LEAST_POSTS : Tok}
    {tk_MOST_POSTS : Tok}
    (q1_MeadError : PySem.W.nsIn K mainGlobals "MeadError" = some (some (.ref C_MeadError)))
    (q2_MeadError : PySem.W.excIn K C_MeadError [.type "ValueError", .type "Exception", .type "BaseException", .type "object"] "ValueError.__new__" = true)
    (q3_MeadError : PySem.W.keepIn K (.ref C_MeadError) = true)
    (q4_MeadError : PySem.W.subIn K (.ref C_MeadError) (.type "BaseException") = some true)
    (q5_MeadError : PySem.W.typeIn K (.ref C_MeadError) = some (.type "type"))
    (e1_MeadError : PySem.W.findIn K (.ref C_MeadError) "__getattribute__" = some (some (.builtin "BaseException.__getattribute__")))
    (e2_MeadError : PySem.W.findIn K (.ref C_MeadError) "__getattr__" = some none)
    (e3_MeadError : PySem.W.hasDictIn K C_MeadError = true)
    (e4_MeadError : PySem.W.findIn K (.ref C_MeadError) "__class__" = some (some (.builtin "object.__class__")))
    (e5_MeadError : PySem.W.specialIn K (.builtin "object.__class__") "__get__" = some (some (.builtin "getset_descriptor.__get__")))
    (e6_MeadError : PySem.W.takesIn K (.builtin "object.__class__") = some true)
    (e7_MeadError : PySem.W.mroIn K C_MeadError (.type "object") = some true)
    (q1_NoCutting : PySem.W.nsIn K mainGlobals "NoCutting" = some (some (.ref C_NoCutting)))
    (q2_NoCutting : PySem.W.excIn K C_NoCutting [.type "ValueError", .type "Exception", .type "BaseException", .type "object"] "ValueError.__new__" = true)
    (q3_NoCutting : PySem.W.keepIn K (.ref C_NoCutting) = true)
    (q4_NoCutting : PySem.W.subIn K (.ref C_NoCutting) (.type "BaseException") = some true)
    (q5_NoCutting : PySem.W.typeIn K (.ref C_NoCutting) = some (.type "type"))
    (e1_NoCutting : PySem.W.findIn K (.ref C_NoCutting) "__getattribute__" = some (some (.builtin "BaseException.__getattribute__")))
    (e2_NoCutting : PySem.W.findIn K (.ref C_NoCutting) "__getattr__" = some none)
    (e3_NoCutting : PySem.W.hasDictIn K C_NoCutting = true)
    (e4_NoCutting : PySem.W.findIn K (.ref C_NoCutting) "__class__" = some (some (.builtin "object.__class__")))
    (e5_NoCutting : PySem.W.specialIn K (.builtin "object.__class__") "__get__" = some (some (.builtin "getset_descriptor.__get__")))
    (e6_NoCutting : PySem.W.takesIn K (.builtin "object.__class__") = some true)
    (e7_NoCutting : PySem.W.mroIn K C_NoCutting (.type "object") = some true)
    (s_NoCutting_MeadError : PySem.W.subIn K (.ref C_NoCutting) (.ref C_MeadError) = some true)
    (t_NoCutting_NoCutting : PySem.W.kitOne K (.ref C_NoCutting) (.ref C_NoCutting) = some true)
    (a_pair_of : PySem.W.nsIn K mainGlobals "pair_of" = some (some (.ref f_pair_of)))
    (l_pair_of : K.lookup f_pair_of = some ⟨oc_pair_of, od_pair_of, .func (PySem.W.fnOf "pair_of" "pair_of" (defArgs s_pair_of) (defBody s_pair_of) (defScope s_pair_of) .none kV_pair_of dc_pair_of pm_pair_of an_pair_of cd_pair_of ct_pair_of), sl_pair_of⟩)
    (c_pair_of : PySem.W.codeIn K cd_pair_of "pair_of" = true)
    (k_pair_of : PySem.W.keepIn K (.ref f_pair_of) = true)
    (a_crosses : PySem.W.nsIn K mainGlobals "crosses" = some (some (.ref f_crosses)))
    (l_crosses : K.lookup f_crosses = some ⟨oc_crosses, od_crosses, .func (PySem.W.fnOf "crosses" "crosses" (defArgs s_crosses) (defBody s_crosses) (defScope s_crosses) .none kV_crosses dc_crosses pm_crosses an_crosses cd_crosses ct_crosses), sl_crosses⟩)
    (c_crosses : PySem.W.codeIn K cd_crosses "crosses" = true)
    (k_crosses : PySem.W.keepIn K (.ref f_crosses) = true)
    (a_kept : PySem.W.nsIn K mainGlobals "kept" = some (some (.ref f_kept)))
    (l_kept : K.lookup f_kept = some ⟨oc_kept, od_kept, .func (PySem.W.fnOf "kept" "kept" (defArgs s_kept) (defBody s_kept) (defScope s_kept) .none kV_kept dc_kept pm_kept an_kept cd_kept ct_kept), sl_kept⟩)
    (c_kept : PySem.W.codeIn K cd_kept "kept" = true)
    (k_kept : PySem.W.keepIn K (.ref f_kept) = true)
    (a_is_cutting : PySem.W.nsIn K mainGlobals "is_cutting" = some (some (.ref f_is_cutting)))
    (l_is_cutting : K.lookup f_is_cutting = some ⟨oc_is_cutting, od_is_cutting, .func (PySem.W.fnOf "is_cutting" "is_cutting" (defArgs s_is_cutting) (defBody s_is_cutting) (defScope s_is_cutting) .none kV_is_cutting dc_is_cutting pm_is_cutting an_is_cutting cd_is_cutting ct_is_cutting), sl_is_cutting⟩)
    (c_is_cutting : PySem.W.codeIn K cd_is_cutting "is_cutting" = true)
    (k_is_cutting : PySem.W.keepIn K (.ref f_is_cutting) = true)
    (a_is_rope : PySem.W.nsIn K mainGlobals "is_rope" = some (some (.ref f_is_rope)))
    (l_is_rope : K.lookup f_is_rope = some ⟨oc_is_rope, od_is_rope, .func (PySem.W.fnOf "is_rope" "is_rope" (defArgs s_is_rope) (defBody s_is_rope) (defScope s_is_rope) .none kV_is_rope dc_is_rope pm_is_rope an_is_rope cd_is_rope ct_is_rope), sl_is_rope⟩)
    (c_is_rope : PySem.W.codeIn K cd_is_rope "is_rope" = true)
    (k_is_rope : PySem.W.keepIn K (.ref f_is_rope) = true)
    (a__law_flow : PySem.W.nsIn K mainGlobals "_law_flow" = some (some (.ref f__law_flow)))
    (l__law_flow : K.lookup f__law_flow = some ⟨oc__law_flow, od__law_flow, .func (PySem.W.fnOf "_law_flow" "_law_flow" (defArgs s__law_flow) (defBody s__law_flow) (defScope s__law_flow) .none kV__law_flow dc__law_flow pm__law_flow an__law_flow cd__law_flow ct__law_flow), sl__law_flow⟩)
    (c__law_flow : PySem.W.codeIn K cd__law_flow "_law_flow" = true)
    (k__law_flow : PySem.W.keepIn K (.ref f__law_flow) = true)
    (a__law_whole : PySem.W.nsIn K mainGlobals "_law_whole" = some (some (.ref f__law_whole)))
    (l__law_whole : K.lookup f__law_whole = some ⟨oc__law_whole, od__law_whole, .func (PySem.W.fnOf "_law_whole" "_law_whole" (defArgs s__law_whole) (defBody s__law_whole) (defScope s__law_whole) .none kV__law_whole dc__law_whole pm__law_whole an__law_whole cd__law_whole ct__law_whole), sl__law_whole⟩)
    (c__law_whole : PySem.W.codeIn K cd__law_whole "_law_whole" = true)
    (k__law_whole : PySem.W.keepIn K (.ref f__law_whole) = true)
    (a__law_many : PySem.W.nsIn K mainGlobals "_law_many" = some (some (.ref f__law_many)))
    (l__law_many : K.lookup f__law_many = some ⟨oc__law_many, od__law_many, .func (PySem.W.fnOf "_law_many" "_law_many" (defArgs s__law_many) (defBody s__law_many) (defScope s__law_many) .none kV__law_many dc__law_many pm__law_many an__law_many cd__law_many ct__law_many), sl__law_many⟩)
    (c__law_many : PySem.W.codeIn K cd__law_many "_law_many" = true)
    (k__law_many : PySem.W.keepIn K (.ref f__law_many) = true)
    (a__law_pair : PySem.W.nsIn K mainGlobals "_law_pair" = some (some (.ref f__law_pair)))
    (l__law_pair : K.lookup f__law_pair = some ⟨oc__law_pair, od__law_pair, .func (PySem.W.fnOf "_law_pair" "_law_pair" (defArgs s__law_pair) (defBody s__law_pair) (defScope s__law_pair) .none kV__law_pair dc__law_pair pm__law_pair an__law_pair cd__law_pair ct__law_pair), sl__law_pair⟩)
    (c__law_pair : PySem.W.codeIn K cd__law_pair "_law_pair" = true)
    (k__law_pair : PySem.W.keepIn K (.ref f__law_pair) = true)
    (a__law_ears : PySem.W.nsIn K mainGlobals "_law_ears" = some (some (.ref f__law_ears)))
    (l__law_ears : K.lookup f__law_ears = some ⟨oc__law_ears, od__law_ears, .func (PySem.W.fnOf "_law_ears" "_law_ears" (defArgs s__law_ears) (defBody s__law_ears) (defScope s__law_ears) .none kV__law_ears dc__law_ears pm__law_ears an__law_ears cd__law_ears ct__law_ears), sl__law_ears⟩)
    (c__law_ears : PySem.W.codeIn K cd__law_ears "_law_ears" = true)
    (k__law_ears : PySem.W.keepIn K (.ref f__law_ears) = true)
    (a__law_ropes : PySem.W.nsIn K mainGlobals "_law_ropes" = some (some (.ref f__law_ropes)))
    (l__law_ropes : K.lookup f__law_ropes = some ⟨oc__law_ropes, od__law_ropes, .func (PySem.W.fnOf "_law_ropes" "_law_ropes" (defArgs s__law_ropes) (defBody s__law_ropes) (defScope s__law_ropes) .none kV__law_ropes dc__law_ropes pm__law_ropes an__law_ropes cd__law_ropes ct__law_ropes), sl__law_ropes⟩)
    (c__law_ropes : PySem.W.codeIn K cd__law_ropes "_law_ropes" = true)
    (k__law_ropes : PySem.W.keepIn K (.ref f__law_ropes) = true)
    (a__law_cross : PySem.W.nsIn K mainGlobals "_law_cross" = some (some (.ref f__law_cross)))
    (l__law_cross : K.lookup f__law_cross = some ⟨oc__law_cross, od__law_cross, .func (PySem.W.fnOf "_law_cross" "_law_cross" (defArgs s__law_cross) (defBody s__law_cross) (defScope s__law_cross) .none kV__law_cross dc__law_cross pm__law_cross an__law_cross cd__law_cross ct__law_cross), sl__law_cross⟩)
    (c__law_cross : PySem.W.codeIn K cd__law_cross "_law_cross" = true)
    (k__law_cross : PySem.W.keepIn K (.ref f__law_cross) = true)
    (a__law_tuple : PySem.W.nsIn K mainGlobals "_law_tuple" = some (some (.ref f__law_tuple)))
    (l__law_tuple : K.lookup f__law_tuple = some ⟨oc__law_tuple, od__law_tuple, .func (PySem.W.fnOf "_law_tuple" "_law_tuple" (defArgs s__law_tuple) (defBody s__law_tuple) (defScope s__law_tuple) .none kV__law_tuple dc__law_tuple pm__law_tuple an__law_tuple cd__law_tuple ct__law_tuple), sl__law_tuple⟩)
    (c__law_tuple : PySem.W.codeIn K cd__law_tuple "_law_tuple" = true)
    (k__law_tuple : PySem.W.keepIn K (.ref f__law_tuple) = true)
    (a__law_list : PySem.W.nsIn K mainGlobals "_law_list" = some (some (.ref f__law_list)))
    (l__law_list : K.lookup f__law_list = some ⟨oc__law_list, od__law_list, .func (PySem.W.fnOf "_law_list" "_law_list" (defArgs s__law_list) (defBody s__law_list) (defScope s__law_list) .none kV__law_list dc__law_list pm__law_list an__law_list cd__law_list ct__law_list), sl__law_list⟩)
    (c__law_list : PySem.W.codeIn K cd__law_list "_law_list" = true)
    (k__law_list : PySem.W.keepIn K (.ref f__law_list) = true)
    (a__law_good : PySem.W.nsIn K mainGlobals "_law_good" = some (some (.ref f__law_good)))
    (l__law_good : K.lookup f__law_good = some ⟨oc__law_good, od__law_good, .func (PySem.W.fnOf "_law_good" "_law_good" (defArgs s__law_good) (defBody s__law_good) (defScope s__law_good) .none kV__law_good dc__law_good pm__law_good an__law_good cd__law_good ct__law_good), sl__law_good⟩)
    (c__law_good : PySem.W.codeIn K cd__law_good "_law_good" = true)
    (k__law_good : PySem.W.keepIn K (.ref f__law_good) = true)
    (a__law_spoilt : PySem.W.nsIn K mainGlobals "_law_spoilt" = some (some (.ref f__law_spoilt)))
    (l__law_spoilt : K.lookup f__law_spoilt = some ⟨oc__law_spoilt, od__law_spoilt, .func (PySem.W.fnOf "_law_spoilt" "_law_spoilt" (defArgs s__law_spoilt) (defBody s__law_spoilt) (defScope s__law_spoilt) .none kV__law_spoilt dc__law_spoilt pm__law_spoilt an__law_spoilt cd__law_spoilt ct__law_spoilt), sl__law_spoilt⟩)
    (c__law_spoilt : PySem.W.codeIn K cd__law_spoilt "_law_spoilt" = true)
    (k__law_spoilt : PySem.W.keepIn K (.ref f__law_spoilt) = true)
    (a_law : PySem.W.nsIn K mainGlobals "law" = some (some (.ref f_law)))
    (l_law : K.lookup f_law = some ⟨oc_law, od_law, .func (PySem.W.fnOf "law" "law" (defArgs s_law) (defBody s_law) (defScope s_law) .none kV_law dc_law pm_law an_law cd_law ct_law), sl_law⟩)
    (c_law : PySem.W.codeIn K cd_law "law" = true)
    (k_law : PySem.W.keepIn K (.ref f_law) = true)
    (z_abs : PySem.W.nsIn K mainGlobals "abs" = some none)
    (z_all : PySem.W.nsIn K mainGlobals "all" = some none)
    (z_any : PySem.W.nsIn K mainGlobals "any" = some none)
    (z_bool : PySem.W.nsIn K mainGlobals "bool" = some none)
    (z_int : PySem.W.nsIn K mainGlobals "int" = some none)
    (z_isinstance : PySem.W.nsIn K mainGlobals "isinstance" = some none)
    (z_len : PySem.W.nsIn K mainGlobals "len" = some none)
    (z_list : PySem.W.nsIn K mainGlobals "list" = some none)
    (z_max : PySem.W.nsIn K mainGlobals "max" = some none)
    (z_min : PySem.W.nsIn K mainGlobals "min" = some none)
    (z_range : PySem.W.nsIn K mainGlobals "range" = some none)
    (z_set : PySem.W.nsIn K mainGlobals "set" = some none)
    (z_sorted : PySem.W.nsIn K mainGlobals "sorted" = some none)
    (z_tuple : PySem.W.nsIn K mainGlobals "tuple" = some none)
    (z_combinations : PySem.W.nsIn K mainGlobals "combinations" = some (some (.type "itertools.combinations")))
    (z_LEAST_POSTS : PySem.W.nsIn K mainGlobals "LEAST_POSTS" = some (some (.int 3 tk_LEAST_POSTS)))
    (z_MOST_POSTS : PySem.W.nsIn K mainGlobals "MOST_POSTS" = some (some (.int 12 tk_MOST_POSTS)))
    : ∃ fd : FuncData, (∀ (s : Shared) (v : Value), BindsTo s fd ⟨[v], []⟩ [("_law_script", v)]) ∧ ∀ base : Heap, K.In base → base.Ns mainGlobals mg → FnOk l.prog w K mg base CX0 4 fa fd ["_law_script"] (sp_law K) := by
  have e := hfa.symm.trans (PySem.W.mg_of X G a_law)
  cases e
  have F_pair_of := fun_mk (st := s_pair_of) l_pair_of c_pair_of k_pair_of
  have F_crosses := fun_mk (st := s_crosses) l_crosses c_crosses k_crosses
  have F_kept := fun_mk (st := s_kept) l_kept c_kept k_kept
  have F_is_cutting := fun_mk (st := s_is_cutting) l_is_cutting c_is_cutting k_is_cutting
  have F_is_rope := fun_mk (st := s_is_rope) l_is_rope c_is_rope k_is_rope
  have F__law_flow := fun_mk (st := s__law_flow) l__law_flow c__law_flow k__law_flow
  have F__law_whole := fun_mk (st := s__law_whole) l__law_whole c__law_whole k__law_whole
  have F__law_many := fun_mk (st := s__law_many) l__law_many c__law_many k__law_many
  have F__law_pair := fun_mk (st := s__law_pair) l__law_pair c__law_pair k__law_pair
  have F__law_ears := fun_mk (st := s__law_ears) l__law_ears c__law_ears k__law_ears
  have F__law_ropes := fun_mk (st := s__law_ropes) l__law_ropes c__law_ropes k__law_ropes
  have F__law_cross := fun_mk (st := s__law_cross) l__law_cross c__law_cross k__law_cross
  have F__law_tuple := fun_mk (st := s__law_tuple) l__law_tuple c__law_tuple k__law_tuple
  have F__law_list := fun_mk (st := s__law_list) l__law_list c__law_list k__law_list
  have F__law_good := fun_mk (st := s__law_good) l__law_good c__law_good k__law_good
  have F__law_spoilt := fun_mk (st := s__law_spoilt) l__law_spoilt c__law_spoilt k__law_spoilt
  have F_law := fun_mk (st := s_law) l_law c_law k_law
  let T : Env K mg := { C_MeadError := C_MeadError, c_MeadError := PySem.W.mg_of X G q1_MeadError, x_MeadError := q2_MeadError, k_MeadError := q3_MeadError, bs_MeadError := q4_MeadError, ty_MeadError := q5_MeadError, e_MeadError := ⟨e1_MeadError, e2_MeadError, q4_MeadError, e3_MeadError, e4_MeadError, e5_MeadError, e6_MeadError, e7_MeadError⟩, C_NoCutting := C_NoCutting, c_NoCutting := PySem.W.mg_of X G q1_NoCutting, x_NoCutting := q2_NoCutting, k_NoCutting := q3_NoCutting, bs_NoCutting := q4_NoCutting, ty_NoCutting := q5_NoCutting, e_NoCutting := ⟨e1_NoCutting, e2_NoCutting, q4_NoCutting, e3_NoCutting, e4_NoCutting, e5_NoCutting, e6_NoCutting, e7_NoCutting⟩, sub_NoCutting_MeadError := s_NoCutting_MeadError, kit_NoCutting_NoCutting := t_NoCutting_NoCutting, a_pair_of := _, fd_pair_of := _, F_pair_of := F_pair_of, g_pair_of := PySem.W.mg_of X G a_pair_of, b_pair_of := F_pair_of.binds (ps := ["a", "b"]) fun _ _ _ _ _ _ us hl => match us, hl with | [_, _], _ => rfl, a_crosses := _, fd_crosses := _, F_crosses := F_crosses, g_crosses := PySem.W.mg_of X G a_crosses, b_crosses := F_crosses.binds (ps := ["one", "other"]) fun _ _ _ _ _ _ us hl => match us, hl with | [_, _], _ => rfl, a_kept := _, fd_kept := _, F_kept := F_kept, g_kept := PySem.W.mg_of X G a_kept, b_kept := F_kept.binds (ps := ["n", "ropes"]) fun _ _ _ _ _ _ us hl => match us, hl with | [_, _], _ => rfl, a_is_cutting := _, fd_is_cutting := _, F_is_cutting := F_is_cutting, g_is_cutting := PySem.W.mg_of X G a_is_cutting, b_is_cutting := F_is_cutting.binds (ps := ["n", "pairs"]) fun _ _ _ _ _ _ us hl => match us, hl with | [_, _], _ => rfl, a_is_rope := _, fd_is_rope := _, F_is_rope := F_is_rope, g_is_rope := PySem.W.mg_of X G a_is_rope, b_is_rope := F_is_rope.binds (ps := ["n", "a", "b"]) fun _ _ _ _ _ _ us hl => match us, hl with | [_, _, _], _ => rfl, a__law_flow := _, fd__law_flow := _, F__law_flow := F__law_flow, g__law_flow := PySem.W.mg_of X G a__law_flow, b__law_flow := F__law_flow.binds (ps := ["_law_script", "_law_many_here"]) fun _ _ _ _ _ _ us hl => match us, hl with | [_, _], _ => rfl, a__law_whole := _, fd__law_whole := _, F__law_whole := F__law_whole, g__law_whole := PySem.W.mg_of X G a__law_whole, b__law_whole := F__law_whole.binds (ps := ["_law_found"]) fun _ _ _ _ _ _ us hl => match us, hl with | [_], _ => rfl, a__law_many := _, fd__law_many := _, F__law_many := F__law_many, g__law_many := PySem.W.mg_of X G a__law_many, b__law_many := F__law_many.binds (ps := ["_law_row"]) fun _ _ _ _ _ _ us hl => match us, hl with | [_], _ => rfl, a__law_pair := _, fd__law_pair := _, F__law_pair := F__law_pair, g__law_pair := PySem.W.mg_of X G a__law_pair, b__law_pair := F__law_pair.binds (ps := ["_law_a", "_law_b"]) fun _ _ _ _ _ _ us hl => match us, hl with | [_, _], _ => rfl, a__law_ears := _, fd__law_ears := _, F__law_ears := F__law_ears, g__law_ears := PySem.W.mg_of X G a__law_ears, b__law_ears := F__law_ears.binds (ps := ["_law_n", "_law_row"]) fun _ _ _ _ _ _ us hl => match us, hl with | [_, _], _ => rfl, a__law_ropes := _, fd__law_ropes := _, F__law_ropes := F__law_ropes, g__law_ropes := PySem.W.mg_of X G a__law_ropes, b__law_ropes := F__law_ropes.binds (ps := ["_law_ears_here"]) fun _ _ _ _ _ _ us hl => match us, hl with | [_], _ => rfl, a__law_cross := _, fd__law_cross := _, F__law_cross := F__law_cross, g__law_cross := PySem.W.mg_of X G a__law_cross, b__law_cross := F__law_cross.binds (ps := ["_law_one", "_law_other"]) fun _ _ _ _ _ _ us hl => match us, hl with | [_, _], _ => rfl, a__law_tuple := _, fd__law_tuple := _, F__law_tuple := F__law_tuple, g__law_tuple := PySem.W.mg_of X G a__law_tuple, b__law_tuple := F__law_tuple.binds (ps := ["_law_found", "_law_many_here"]) fun _ _ _ _ _ _ us hl => match us, hl with | [_, _], _ => rfl, a__law_list := _, fd__law_list := _, F__law_list := F__law_list, g__law_list := PySem.W.mg_of X G a__law_list, b__law_list := F__law_list.binds (ps := ["_law_found", "_law_many_here"]) fun _ _ _ _ _ _ us hl => match us, hl with | [_, _], _ => rfl, a__law_good := _, fd__law_good := _, F__law_good := F__law_good, g__law_good := PySem.W.mg_of X G a__law_good, b__law_good := F__law_good.binds (ps := ["_law_n", "_law_ropes_here"]) fun _ _ _ _ _ _ us hl => match us, hl with | [_, _], _ => rfl, a__law_spoilt := _, fd__law_spoilt := _, F__law_spoilt := F__law_spoilt, g__law_spoilt := PySem.W.mg_of X G a__law_spoilt, b__law_spoilt := F__law_spoilt.binds (ps := ["_law_n", "_law_ropes_here", "_law_row"]) fun _ _ _ _ _ _ us hl => match us, hl with | [_, _, _], _ => rfl, a_law := _, fd_law := _, F_law := F_law, g_law := PySem.W.mg_of X G a_law, b_law := F_law.binds (ps := ["_law_script"]) fun _ _ _ _ _ _ us hl => match us, hl with | [_], _ => rfl, m_abs := PySem.W.mg_none_of X G z_abs, m_all := PySem.W.mg_none_of X G z_all, m_any := PySem.W.mg_none_of X G z_any, m_bool := PySem.W.mg_none_of X G z_bool, m_int := PySem.W.mg_none_of X G z_int, m_isinstance := PySem.W.mg_none_of X G z_isinstance, m_len := PySem.W.mg_none_of X G z_len, m_list := PySem.W.mg_none_of X G z_list, m_max := PySem.W.mg_none_of X G z_max, m_min := PySem.W.mg_none_of X G z_min, m_range := PySem.W.mg_none_of X G z_range, m_set := PySem.W.mg_none_of X G z_set, m_sorted := PySem.W.mg_none_of X G z_sorted, m_tuple := PySem.W.mg_none_of X G z_tuple, tk_LEAST_POSTS := tk_LEAST_POSTS, m_LEAST_POSTS := PySem.W.mg_of X G z_LEAST_POSTS, tk_MOST_POSTS := tk_MOST_POSTS, m_MOST_POSTS := PySem.W.mg_of X G z_MOST_POSTS, m_combinations := PySem.W.mg_of X G z_combinations }
  exact ⟨PySem.W.fnOf "law" "law" (defArgs s_law) (defBody s_law) (defScope s_law) .none kV_law dc_law pm_law an_law cd_law ct_law, fun s v => .of_eq rfl, fun base _ _ => ok_law T⟩
end
end My
open PySem PySem.W PyProof.Rows
set_option maxRecDepth 100000 in
set_option maxHeartbeats 0 in
theorem PySem.Challenge.cw_postmead_k09_ropes_kept_holds : PySem.Challenge.rw_postmead_k09_ropes_kept.Holds := by
  w_on; o_law; k_head; (case hw => w_witness2)
  k_fill
  refine L2.walk_of (l := PySem.Challenge.rw_postmead_k09_ropes_kept) (n := 63) (k := 4) (x := "_law_script") (CX := fun _ => L2.CX0) (sp := fun w => My.sp_law _) rfl (by decide) rfl ⟨rfl, by decide, by decide⟩ (fun w h Y => PySem.W.kIn_of Y) ?F (fun _ _ a ns hl _ hS => ⟨a, ns, rfl, hS, hl, fun _ => rfl⟩) (fun _ _ _ _ _ h => h)
  case F =>
    intro w mg fa h KX G hmg
    refine' My.all_mk KX G hmg ?q1_MeadError ?q2_MeadError ?q3_MeadError ?q4_MeadError ?q5_MeadError ?e1_MeadError ?e2_MeadError ?e3_MeadError ?e4_MeadError ?e5_MeadError ?e6_MeadError ?e7_MeadError ?q1_NoCutting ?q2_NoCutting ?q3_NoCutting ?q4_NoCutting ?q5_NoCutting ?e1_NoCutting ?e2_NoCutting ?e3_NoCutting ?e4_NoCutting ?e5_NoCutting ?e6_NoCutting ?e7_NoCutting ?s_NoCutting_MeadError ?t_NoCutting_NoCutting ?a_pair_of ?l_pair_of ?c_pair_of ?k_pair_of ?a_crosses ?l_crosses ?c_crosses ?k_crosses ?a_kept ?l_kept ?c_kept ?k_kept ?a_is_cutting ?l_is_cutting ?c_is_cutting ?k_is_cutting ?a_is_rope ?l_is_rope ?c_is_rope ?k_is_rope ?a__law_flow ?l__law_flow ?c__law_flow ?k__law_flow ?a__law_whole ?l__law_whole ?c__law_whole ?k__law_whole ?a__law_many ?l__law_many ?c__law_many ?k__law_many ?a__law_pair ?l__law_pair ?c__law_pair ?k__law_pair ?a__law_ears ?l__law_ears ?c__law_ears ?k__law_ears ?a__law_ropes ?l__law_ropes ?c__law_ropes ?k__law_ropes ?a__law_cross ?l__law_cross ?c__law_cross ?k__law_cross ?a__law_tuple ?l__law_tuple ?c__law_tuple ?k__law_tuple ?a__law_list ?l__law_list ?c__law_list ?k__law_list ?a__law_good ?l__law_good ?c__law_good ?k__law_good ?a__law_spoilt ?l__law_spoilt ?c__law_spoilt ?k__law_spoilt ?a_law ?l_law ?c_law ?k_law ?z_abs ?z_all ?z_any ?z_bool ?z_int ?z_isinstance ?z_len ?z_list ?z_max ?z_min ?z_range ?z_set ?z_sorted ?z_tuple ?z_combinations ?z_LEAST_POSTS ?z_MOST_POSTS
    (case q1_MeadError => k_is)
    (case q2_MeadError => k_exc)
    (case q3_MeadError => k_is)
    (case q4_MeadError => k_is)
    (case q5_MeadError => k_is)
    (case e1_MeadError => k_is)
    (case e2_MeadError => k_is)
    (case e3_MeadError => k_is)
    (case e4_MeadError => k_is)
    (case e5_MeadError => k_is)
    (case e6_MeadError => k_is)
    (case e7_MeadError => k_is)
    (case q1_NoCutting => k_is)
    (case q2_NoCutting => k_exc)
    (case q3_NoCutting => k_is)
    (case q4_NoCutting => k_is)
    (case q5_NoCutting => k_is)
    (case e1_NoCutting => k_is)
    (case e2_NoCutting => k_is)
    (case e3_NoCutting => k_is)
    (case e4_NoCutting => k_is)
    (case e5_NoCutting => k_is)
    (case e6_NoCutting => k_is)
    (case e7_NoCutting => k_is)
    (case s_NoCutting_MeadError => first | rfl | k_is)
    (case t_NoCutting_NoCutting => first | k_is | rfl)
    (case a_pair_of => k_is)
    (case l_pair_of => k_is)
    (case c_pair_of => k_is)
    (case k_pair_of => k_is)
    (case a_crosses => k_is)
    (case l_crosses => k_is)
    (case c_crosses => k_is)
    (case k_crosses => k_is)
    (case a_kept => k_is)
    (case l_kept => k_is)
    (case c_kept => k_is)
    (case k_kept => k_is)
    (case a_is_cutting => k_is)
    (case l_is_cutting => k_is)
    (case c_is_cutting => k_is)
    (case k_is_cutting => k_is)
    (case a_is_rope => k_is)
    (case l_is_rope => k_is)
    (case c_is_rope => k_is)
    (case k_is_rope => k_is)
    (case a__law_flow => k_is)
    (case l__law_flow => k_is)
    (case c__law_flow => k_is)
    (case k__law_flow => k_is)
    (case a__law_whole => k_is)
    (case l__law_whole => k_is)
    (case c__law_whole => k_is)
    (case k__law_whole => k_is)
    (case a__law_many => k_is)
    (case l__law_many => k_is)
    (case c__law_many => k_is)
    (case k__law_many => k_is)
    (case a__law_pair => k_is)
    (case l__law_pair => k_is)
    (case c__law_pair => k_is)
    (case k__law_pair => k_is)
    (case a__law_ears => k_is)
    (case l__law_ears => k_is)
    (case c__law_ears => k_is)
    (case k__law_ears => k_is)
    (case a__law_ropes => k_is)
    (case l__law_ropes => k_is)
    (case c__law_ropes => k_is)
    (case k__law_ropes => k_is)
    (case a__law_cross => k_is)
    (case l__law_cross => k_is)
    (case c__law_cross => k_is)
    (case k__law_cross => k_is)
    (case a__law_tuple => k_is)
    (case l__law_tuple => k_is)
    (case c__law_tuple => k_is)
    (case k__law_tuple => k_is)
    (case a__law_list => k_is)
    (case l__law_list => k_is)
    (case c__law_list => k_is)
    (case k__law_list => k_is)
    (case a__law_good => k_is)
    (case l__law_good => k_is)
    (case c__law_good => k_is)
    (case k__law_good => k_is)
    (case a__law_spoilt => k_is)
    (case l__law_spoilt => k_is)
    (case c__law_spoilt => k_is)
    (case k__law_spoilt => k_is)
    (case a_law => k_is)
    (case l_law => k_is)
    (case c_law => k_is)
    (case k_law => k_is)
    (case z_abs => k_is)
    (case z_all => k_is)
    (case z_any => k_is)
    (case z_bool => k_is)
    (case z_int => k_is)
    (case z_isinstance => k_is)
    (case z_len => k_is)
    (case z_list => k_is)
    (case z_max => k_is)
    (case z_min => k_is)
    (case z_range => k_is)
    (case z_set => k_is)
    (case z_sorted => k_is)
    (case z_tuple => k_is)
    (case z_combinations => k_is)
    (case z_LEAST_POSTS => k_is)
    (case z_MOST_POSTS => k_is)
#print axioms PySem.Challenge.cw_postmead_k09_ropes_kept_holds
