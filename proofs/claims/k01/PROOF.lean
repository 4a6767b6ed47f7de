import PyProof.Rows.All
import Wide.All
import OpenK.AllK
import Wide.FinOn
import HandS.ForMost
import HandS.ForExc
import HandS.Wide
import HandS.Gcd
import HandS.IsInst
import HandS.ExcIs
import HandS.Codes
import PySem.Challenge.RW_postmead_k01_lowest_terms
set_option Elab.async false
set_option linter.all false
set_option maxRecDepth 100000
set_option maxHeartbeats 4000000
namespace My
open PySem PySem.Spec PyProof.Rows L2
/-! ### readings: small steps -/
local macro_rules | `(tactic| walk_at "rd") => `(tactic| repeat (first
  | refine ⟨_, rfl, ?_⟩
  | refine ⟨_, _, rfl, rfl, ?_⟩
  | refine ⟨.inr ⟨by decide, by decide⟩, ?_⟩
  | refine ⟨by decide, ?_⟩))
theorem op_fdivX {X : Cx} : OpR X (binaryOp .FloorDiv) (rI (fun _ j => j ≠ 0 ∧ j.natAbs.log2 < 9000) fun i j => .int (i.fdiv j)) :=
  opI fun _ _ _ _ _ _ _ hc q => floordiv_int hc.1 q (.inl (PyProof.noPylong_of_log2 hc.2))
theorem op_mulU {X : Cx} : OpR X (binaryOp .Mult) (rI IntMulOk fun i j => .int (i * j)) := opI fun _ _ _ _ _ _ _ hc q => mul_int q hc
theorem mulL {i j : Int} (h0 : -(2 ^ 64) < i) (h1 : i < 2 ^ 64) : IntMulOk i j := CMul.ok (.inl ⟨h0, h1⟩)
theorem mulR {i j : Int} (h0 : -(2 ^ 64) < j) (h1 : j < 2 ^ 64) : IntMulOk i j := CMul.ok (.inr ⟨h0, h1⟩)
theorem nd {p : Prop} [Decidable p] (h : ¬ decide p = true) : ¬ p := fun hp => h (decide_eq_true hp)
theorem zc_of {cls : Value} {d : Option Addr} {C : Addr} {oe : Obj} (h : Zc cls d oe) (e : cls = .ref C ∧ d = none) : Zc (.ref C) none oe := by
  obtain ⟨e1, e2⟩ := e
  rw [← e1, ← e2]
  exact h
theorem same_new {H : Hp} {p : Addr} {o : HO} (h : H p = none) : Same H (upd H p o) := fun b x e => by
  rw [upd_ne (ne_of_none e h)]
  exact e
theorem same_put {H H' : Hp} {p : Addr} {o : HO} (s : Same H H') (h : H p = none) : Same H (upd H' p o) := fun b x e => by
  rw [upd_ne (ne_of_none e h)]
  exact s _ _ e
theorem log_small {n b : Nat} (h0 : 0 < b) (h : n < 2 ^ b) (h9 : b ≤ 9000) : n.log2 < 9000 := Nat.lt_of_lt_of_le (PySem.Flt.log2_lt_of h0 h) h9
theorem pss_guard {X : Cx} {b : List Stmt} {t : TS} {P : Prop} (h : P → PSs X b t) : PSs X b (fun D σ H => P ∧ t D σ H) :=
  ⟨fun pins s σ H D I q => (h q.1).run pins s σ H D I q.2⟩
def topS (i : Nat) : Stmt := PySem.Challenge.pw_postmead_k01_lowest_terms.main.body.getD i (.Pass ⟨0, 0, 0, 0⟩)
abbrev s_lowest : Stmt := topS 5
theorem sc_lowest : FnScope ["top", "bottom", "divisor"] ["top", "bottom"] (defScope s_lowest) := ⟨rfl, rfl, rfl, by decide +kernel, rfl, by decide +kernel, by decide +kernel⟩
abbrev s__law_flow : Stmt := topS 7
theorem sc__law_flow : FnScope ["_law_script", "_law_many", "_law_great", "_law_row", "_law_k", "_law_cell", "_law_mixed"] ["_law_script", "_law_many"] (defScope s__law_flow) := ⟨rfl, rfl, rfl, by decide +kernel, rfl, by decide +kernel, by decide +kernel⟩
abbrev s__law_whole : Stmt := topS 8
theorem sc__law_whole : FnScope ["_law_found"] ["_law_found"] (defScope s__law_whole) := ⟨rfl, rfl, rfl, by decide +kernel, rfl, by decide +kernel, by decide +kernel⟩
abbrev s__law_low : Stmt := topS 9
theorem sc__law_low : FnScope ["_law_top", "_law_bottom", "_law_one", "_law_other"] ["_law_top", "_law_bottom"] (defScope s__law_low) := ⟨rfl, rfl, rfl, by decide +kernel, rfl, by decide +kernel, by decide +kernel⟩
abbrev s__law_part : Stmt := topS 10
theorem sc__law_part : FnScope ["_law_found"] ["_law_found"] (defScope s__law_part) := ⟨rfl, rfl, rfl, by decide +kernel, rfl, by decide +kernel, by decide +kernel⟩
abbrev s__law_refused : Stmt := topS 11
theorem sc__law_refused : FnScope ["_law_top", "_law_bottom", "e"] ["_law_top", "_law_bottom"] (defScope s__law_refused) := ⟨rfl, rfl, rfl, by decide +kernel, rfl, by decide +kernel, by decide +kernel⟩
abbrev s_law : Stmt := topS 12
theorem sc_law : FnScope ["_law_script", "_law_row", "_law_top", "_law_bottom", "_law_found"] ["_law_script"] (defScope s_law) := ⟨rfl, rfl, rfl, by decide +kernel, rfl, by decide +kernel, by decide +kernel⟩
structure Env (K : PySem.W.Frag) (mg : Str → Option Value) where
  C_MeadError : Addr
  c_MeadError : mg "MeadError" = some (.ref C_MeadError)
  x_MeadError : PySem.W.excIn K C_MeadError [.type "ValueError", .type "Exception", .type "BaseException", .type "object"] "ValueError.__new__" = true
  k_MeadError : PySem.W.keepIn K (.ref C_MeadError) = true
  bs_MeadError : PySem.W.subIn K (.ref C_MeadError) (.type "BaseException") = some true
  ty_MeadError : PySem.W.typeIn K (.ref C_MeadError) = some (.type "type")
  e_MeadError : ExcC K C_MeadError
  C_NoFraction : Addr
  c_NoFraction : mg "NoFraction" = some (.ref C_NoFraction)
  x_NoFraction : PySem.W.excIn K C_NoFraction [.type "ValueError", .type "Exception", .type "BaseException", .type "object"] "ValueError.__new__" = true
  k_NoFraction : PySem.W.keepIn K (.ref C_NoFraction) = true
  bs_NoFraction : PySem.W.subIn K (.ref C_NoFraction) (.type "BaseException") = some true
  ty_NoFraction : PySem.W.typeIn K (.ref C_NoFraction) = some (.type "type")
  e_NoFraction : ExcC K C_NoFraction
  sub_NoFraction_MeadError : PySem.W.subIn K (.ref C_NoFraction) (.ref C_MeadError) = some true
  kit_NoFraction_NoFraction : PySem.W.kitOne K (.ref C_NoFraction) (.ref C_NoFraction) = some true
  kit_NoFraction_ValueError : PySem.W.kitOne K (.ref C_NoFraction) (.type "ValueError") = some true
  a_lowest : Addr
  fd_lowest : FuncData
  F_lowest : Fun K "lowest" "lowest" s_lowest a_lowest fd_lowest
  g_lowest : mg "lowest" = some (.ref a_lowest)
  b_lowest : Binds K fd_lowest ["top", "bottom"] []
  a__law_flow : Addr
  fd__law_flow : FuncData
  F__law_flow : Fun K "_law_flow" "_law_flow" s__law_flow a__law_flow fd__law_flow
  g__law_flow : mg "_law_flow" = some (.ref a__law_flow)
  b__law_flow : Binds K fd__law_flow ["_law_script", "_law_many"] []
  a__law_whole : Addr
  fd__law_whole : FuncData
  F__law_whole : Fun K "_law_whole" "_law_whole" s__law_whole a__law_whole fd__law_whole
  g__law_whole : mg "_law_whole" = some (.ref a__law_whole)
  b__law_whole : Binds K fd__law_whole ["_law_found"] []
  a__law_low : Addr
  fd__law_low : FuncData
  F__law_low : Fun K "_law_low" "_law_low" s__law_low a__law_low fd__law_low
  g__law_low : mg "_law_low" = some (.ref a__law_low)
  b__law_low : Binds K fd__law_low ["_law_top", "_law_bottom"] []
  a__law_part : Addr
  fd__law_part : FuncData
  F__law_part : Fun K "_law_part" "_law_part" s__law_part a__law_part fd__law_part
  g__law_part : mg "_law_part" = some (.ref a__law_part)
  b__law_part : Binds K fd__law_part ["_law_found"] []
  a__law_refused : Addr
  fd__law_refused : FuncData
  F__law_refused : Fun K "_law_refused" "_law_refused" s__law_refused a__law_refused fd__law_refused
  g__law_refused : mg "_law_refused" = some (.ref a__law_refused)
  b__law_refused : Binds K fd__law_refused ["_law_top", "_law_bottom"] []
  a_law : Addr
  fd_law : FuncData
  F_law : Fun K "law" "law" s_law a_law fd_law
  g_law : mg "law" = some (.ref a_law)
  b_law : Binds K fd_law ["_law_script"] []
  m_ValueError : mg "ValueError" = none
  m_abs : mg "abs" = none
  m_bool : mg "bool" = none
  m_int : mg "int" = none
  m_isinstance : mg "isinstance" = none
  m_len : mg "len" = none
  m_range : mg "range" = none
  m_tuple : mg "tuple" = none
  m_gcd : mg "gcd" = some (.builtin "math.gcd")
section
variable {P : Program} {w : World} {K : PySem.W.Frag} {mg : Str → Option Value} {base : Heap}

/-! ### the row of numbers that the script makes -/
def rowOk (rs : List Int) : Prop := ∀ v ∈ rs, 0 ≤ v ∧ v < 1000000
theorem rowOk_nil : rowOk [] := fun _ h => by cases h
theorem rowOk_add {rs : List Int} {v : Int} (h : rowOk rs) (h0 : 0 ≤ v) (h1 : v < 1000000) : rowOk (rs ++ [v]) := fun x hx => by
  rcases List.mem_append.mp hx with q | q
  · exact h x q
  · rw [List.mem_singleton.mp q]
    exact ⟨h0, h1⟩
def sp_flow (K : PySem.W.Frag) : Sp := fun vs H Q _ => ∃ (a : Addr) (ns : List Int) (m : Int), vs = [.ref a, .int m] ∧ SqL K H a (ns.map V.int) ∧ ns.length ≤ 63 ∧ 0 ≤ m ∧ m ≤ 1000 ∧
  ∀ H' p (rs : List Int), Same H H' → H p = none → rs.length = m.toNat → rowOk rs → H' p = some (.lst (rs.map V.int)) → Q (.ref p) H'
def flowInv (a : Addr) (m : Int) (p : Addr) (H : Hp) : Nat → L2.St → Hp → Prop := fun i σ H' => ∃ (g : Int) (rs : List Int) (k c x : Option V),
  σ = [some (.ref a), some (.int m), some (.int g), some (.ref p), k, c, x] ∧ Same H H' ∧ H' p = some (.lst (rs.map V.int)) ∧ rs.length = i ∧ rowOk rs
theorem mod_in (x : Int) : 0 ≤ x % 1000000 ∧ x % 1000000 < 1000000 := ⟨Int.emod_nonneg _ (by decide), Int.emod_lt_of_pos _ (by decide)⟩
theorem flow_turn {a p : Addr} {m g z : Int} {H H' : Hp} {i : Nat} {rs : List Int} {k c x : Option V} (hs : Same H H') (hp : H p = none) (hrl : rs.length = i) (hro : rowOk rs) :
    flowInv a m p H (i + 1) [some (.ref a), some (.int m), some (.int g), some (.ref p), k, c, x] (upd H' p (.lst (rs.map V.int ++ [V.int (z % 1000000)]))) := by
  refine ⟨g, rs ++ [z % 1000000], k, c, x, rfl, same_put hs hp, ?_, by rw [List.length_append, hrl]; rfl, rowOk_add hro (mod_in z).1 (mod_in z).2⟩
  rw [upd_same, List.map_append]; rfl
theorem mod_at {ns : List Int} (h : 0 < ns.length) (k : Nat) : ∃ z, atI (ns.map V.int) ((k : Int) % (ns.length : Int)) = some (.int z) := by
  have hk : k % ns.length < ns.length := Nat.mod_lt _ h
  refine ⟨ns[k % ns.length], ?_⟩
  rw [← Int.natCast_emod]
  refine atI_nat ?_
  rw [List.getElem?_map, List.getElem?_eq_getElem hk]
  rfl
theorem ok__law_flow (T : Env K mg) : FnOk P w K mg base CX0 1 T.a__law_flow T.fd__law_flow ["_law_script", "_law_many"] (sp_flow K) := by
  refine T.F__law_flow.ok sc__law_flow (fun vs H Q E h => ?_) (fun cdv A outer s H vs Q E hr h => ?_)
  · obtain ⟨a, ns, m, rfl, _⟩ := h
    rfl
  · obtain ⟨a, ns, m, rfl, hS, hl, hm0, hm1, q⟩ := h
    refine ⟨_, (pss_cons (ps_set (i := 2) sc__law_flow.nd rfl (.inl rfl) pe_int)
 (C8.pss_cut (ps_if (PW.pt (pw_and (pt_cmpR op_gt (pe_callB call_len_seq (by rfl) T.m_len (by decide +kernel) (pa_cons (pv 0) pa_nil)) pe_int (nomark _)) (pw_and1 (pt_cmpR op_ge (pe_callB call_abs (by rfl) T.m_abs (by decide +kernel) (pa_cons (pe_ix ix_list (pv 0) pe_int (fun _ _ => rfl)) pa_nil)) (pe_op op_pow pe_int pe_int) (nomark _)))))
 (pss_one (ps_set (i := 2) sc__law_flow.nd rfl (.inl rfl) (pe_op op_sub (pe_callB call_abs (by rfl) T.m_abs (by decide +kernel) (pa_cons (pe_ix ix_list (pv 0) pe_int (fun _ _ => rfl)) pa_nil)) (pe_op op_pow pe_int pe_int))))
 pss_nil)
 (pss_cons (ps_set (i := 3) sc__law_flow.nd rfl (.inl rfl) (pe_lst pa_nil))
 (pss_cons (ps_for PassesOwn.never rfl (pi_range1 (by rfl) T.m_range (pa_cons (pv 1) pa_nil)) (pg_name (i := 4) sc__law_flow.nd rfl (.inl rfl))
 (pss_one (ps_if (pt_cmpR op_gt (pv 2) pe_int (nomark _))
 (pss_cons (ps_expr (pe_bm PySem.F.plainAttrs_list PySem.F.slot_list_append PySem.F.type_list_append mt_append (pv 3) (pa_cons (pe_op op_mod (pv 2) pe_int) pa_nil)))
 (pss_one (ps_set (i := 2) sc__law_flow.nd rfl (.inl rfl) (pe_op op_fdiv (pv 2) pe_int))))
 (pss_cons (ps_set (i := 5) sc__law_flow.nd rfl (.inl rfl) (pe_op op_add (pv 4) pe_int))
 (C8.pss_cut (ps_if (pt_cmpR op_gt (pe_callB call_len_seq (by rfl) T.m_len (by decide +kernel) (pa_cons (pv 0) pa_nil)) pe_int (nomark _))
 (pss_one (ps_set (i := 5) sc__law_flow.nd rfl (.inl rfl) (pe_ix ix_list (pv 0) (pe_op op_mod (pv 4) (pe_callB call_len_seq (by rfl) T.m_len (by decide +kernel) (pa_cons (pv 0) pa_nil))) (fun _ _ => rfl))))
 pss_nil)
 (pss_cons (ps_set (i := 6) sc__law_flow.nd rfl (.inl rfl) (pe_op op_mod (pe_op op_add (pe_op op_add (pe_op op_mulU (pv 5) pe_int) (pe_op op_mulU (pv 4) pe_int)) pe_int) pe_int))
 (pss_cons (ps_set (i := 6) sc__law_flow.nd rfl (.inl rfl) (pe_op op_mod (pe_op op_add (pe_op op_add (pe_op op_mulU (pv 6) pe_int) (pe_op op_mulU (pv 4) pe_int)) (pe_callB call_len_seq (by rfl) T.m_len (by decide +kernel) (pa_cons (pv 0) pa_nil))) pe_int))
 (pss_one (ps_expr (pe_bm PySem.F.plainAttrs_list PySem.F.slot_list_append PySem.F.type_list_append mt_append (pv 3) (pa_cons (pe_op op_mod (pe_op op_fdiv (pv 6) pe_int) pe_int) pa_nil)))))))))))
 (pss_one (ps_ret (pv 3))))))), ?_⟩
    have hlen : (ns.map V.int).length = ns.length := List.length_map _
    refine ⟨fun σ' H' => ∃ g : Int, σ' = [some (.ref a), some (.int m), some (.int g), none, none, none, none] ∧ H = H', ?_, ?_⟩
    · refine ⟨_, rfl, _, _, rfl, .inl hS, _, _, rfl, rfl, _, rfl, ite2 (fun hd => ?_) (fun _ => ⟨_, rfl, rfl⟩)⟩
      have h0 : 0 < ns.length := by
        have := of_decide_eq_true hd
        rw [hlen] at this
        omega
      obtain ⟨z, hz⟩ := mod_at h0 0
      have hz0 : atI (ns.map V.int) 0 = some (.int z) := by
        have e : ((0 : Nat) : Int) % (ns.length : Int) = 0 := by simp
        rw [e] at hz
        exact hz
      refine ⟨_, rfl, a, _, _, _, rfl, rfl, hS, hz0, _, rfl, _, _, rfl, rfl, ⟨by decide, by decide, by decide⟩, _, _, rfl, rfl, _, rfl, ?_⟩
      refine ite2 (fun _ => ?_) (fun _ => ⟨_, rfl, rfl⟩)
      exact ⟨_, rfl, a, _, _, _, rfl, rfl, hS, hz0, _, rfl, _, _, rfl, rfl, ⟨by decide, by decide, by decide⟩, _, _, rfl, rfl, _, rfl, rfl⟩
    · rintro _ _ ⟨g, rfl, rfl⟩
      refine ⟨Nat.zero_le _, fun p hp => ?_⟩
      refine ⟨_, rfl, m, rfl, by omega, by omega, for_range (lo := 0) (n := m.toNat) (flowInv a m p H) ⟨g, [], none, none, none, rfl, same_new hp, upd_same, rfl, rowOk_nil⟩ ?_ ?_⟩
      · rintro i σ H' hi ⟨g, rs, k, c, x, rfl, hs, hpl, hrl, hro⟩
        have hA := hs.seq hS
        have hsz : (rs.map V.int).length < sizeLine := by rw [List.length_map]; exact small1000 (by omega)
        refine ⟨_, rfl, _, _, rfl, rfl, _, rfl, ite2 (fun _ => ?_) (fun _ => ?_)⟩
        · refine ⟨_, rfl, .inl ⟨rfl, _, .inl (.inl hpl)⟩, _, rfl, _, _, rfl, rfl, (by show (0 : Int) < _; decide), p, _, _, rfl, rfl, hpl, hsz, ?_⟩
          refine ⟨_, rfl, _, _, rfl, rfl, ⟨by decide, by decide⟩, ?_⟩
          exact flow_turn hs hp hrl hro
        · refine ⟨_, rfl, _, _, rfl, rfl, ?_⟩
          refine ⟨fun σ' H2 => ∃ cell : Int, σ' = [some (.ref a), some (.int m), some (.int g), some (.ref p), some (.int (0 + (i : Int))), some (.int cell), x] ∧ H' = H2, ?_, ?_⟩
          · refine ⟨_, rfl, _, _, rfl, .inl hA, _, _, rfl, rfl, _, rfl, ite2 (fun hd => ?_) (fun _ => ⟨_, rfl, rfl⟩)⟩
            have h0 : 0 < ns.length := by
              have := of_decide_eq_true hd
              rw [hlen] at this
              omega
            obtain ⟨z, hz⟩ := mod_at h0 i
            refine ⟨_, rfl, _, rfl, _, rfl, _, _, rfl, .inl hA, _, _, rfl, rfl, (by rw [hlen]; omega), a, _, _, .int z, rfl, rfl, hA, ?_, ⟨z, rfl, rfl⟩⟩
            rw [hlen, Int.zero_add]
            exact hz
          · rintro _ _ ⟨cell, rfl, rfl⟩
            refine ⟨_, rfl, _, _, rfl, rfl, mulR (by decide) (by decide), _, rfl, _, _, rfl, rfl, mulR (by decide) (by decide), _, _, rfl, rfl, _, _, rfl, rfl, _, _, rfl, rfl, (by show (0 : Int) < _; decide), ?_⟩
            refine ⟨_, rfl, _, _, rfl, rfl, mulR (by decide) (by decide), _, rfl, _, _, rfl, rfl, mulR (by decide) (by decide), _, _, rfl, rfl, _, rfl, _, _, rfl, .inl hA, _, _, rfl, rfl, _, _, rfl, rfl, (by show (0 : Int) < _; decide), ?_⟩
            refine ⟨_, rfl, .inl ⟨rfl, _, .inl (.inl hpl)⟩, _, rfl, _, _, rfl, rfl, ⟨by decide, by decide⟩, _, _, rfl, rfl, (by show (0 : Int) < _; decide), p, _, _, rfl, rfl, hpl, hsz, ?_⟩
            exact flow_turn hs hp hrl hro
      · rintro σ H' ⟨g, rs, k, c, x, rfl, hs, hpl, hrl, hro⟩
        exact ⟨_, rfl, q H' p rs hs hp hrl hro hpl⟩

/-! ### fractions in lowest terms: the mathematics -/
def lowI (t b : Int) : Int × Int := if b < 0 then ((-t) / ((Nat.gcd t.natAbs b.natAbs : Nat) : Int), (-b) / ((Nat.gcd t.natAbs b.natAbs : Nat) : Int)) else (t / ((Nat.gcd t.natAbs b.natAbs : Nat) : Int), b / ((Nat.gcd t.natAbs b.natAbs : Nat) : Int))
/-- lowest terms: x over y -/
structure Low (x y : Int) : Prop where
  pos : 0 < y
  one : Nat.gcd x.natAbs y.natAbs = 1
theorem lowI_pos {t b : Int} (h : 0 < b) : Low (lowI t b).1 (lowI t b).2 ∧ (lowI t b).1 * b = (lowI t b).2 * t ∧ (lowI t b).2 ≤ b ∧ (lowI t b).1.natAbs ≤ t.natAbs := by
  have hg : 0 < Nat.gcd t.natAbs b.natAbs := Nat.gcd_pos_of_pos_right _ (by omega)
  obtain ⟨x, hx⟩ := Nat.gcd_dvd_left t.natAbs b.natAbs
  obtain ⟨y, hy⟩ := Nat.gcd_dvd_right t.natAbs b.natAbs
  have e : lowI t b = (t / ((Nat.gcd t.natAbs b.natAbs : Nat) : Int), b / ((Nat.gcd t.natAbs b.natAbs : Nat) : Int)) := by
    unfold lowI
    rw [if_neg (by omega)]
  rw [e]
  generalize hgd : Nat.gcd t.natAbs b.natAbs = g at *
  have hg' : (g : Int) ≠ 0 := by omega
  have hb : b = (g : Int) * (y : Int) := by
    have : (b.natAbs : Int) = ((g * y : Nat) : Int) := by rw [← hy]
    rw [Int.natCast_mul] at this
    omega
  have eb : b / (g : Int) = (y : Int) := by rw [hb]; exact Int.mul_ediv_cancel_left _ hg'
  have hy0 : 0 < y := by
    rcases Nat.eq_zero_or_pos y with q | q
    · rw [q, Int.ofNat_zero, Int.mul_zero] at hb; omega
    · exact q
  have ht : t = (g : Int) * (if t < 0 then -(x : Int) else (x : Int)) := by
    have : (t.natAbs : Int) = ((g * x : Nat) : Int) := by rw [← hx]
    rw [Int.natCast_mul] at this
    split
    · rw [Int.mul_neg]; omega
    · omega
  have et : t / (g : Int) = (if t < 0 then -(x : Int) else (x : Int)) := by
    conv => lhs; rw [ht]
    exact Int.mul_ediv_cancel_left _ hg'
  have hcop : Nat.gcd x y = 1 := by
    have h1 : Nat.gcd (g * x) (g * y) = g * Nat.gcd x y := Nat.gcd_mul_left g x y
    rw [← hx, ← hy, hgd] at h1
    have h2 : g * 1 = g * Nat.gcd x y := by rw [Nat.mul_one]; exact h1
    exact (Nat.eq_of_mul_eq_mul_left hg h2).symm
  rw [eb, et]
  have hna : (if t < 0 then -(x : Int) else (x : Int)).natAbs = x := by split <;> omega
  refine ⟨⟨by omega, ?_⟩, ?_, ?_, ?_⟩
  · rw [hna, Int.natAbs_natCast]; exact hcop
  · have := ht
    generalize (if t < 0 then -(x : Int) else (x : Int)) = x' at *
    show x' * b = (y : Int) * t
    rw [hb, ht, Int.mul_left_comm x', Int.mul_left_comm (y : Int), Int.mul_comm x']
  · rw [hb]
    have : (1 : Int) * (y : Int) ≤ (g : Int) * (y : Int) := Int.mul_le_mul_of_nonneg_right (by omega) (by omega)
    omega
  · show (if t < 0 then -(x : Int) else (x : Int)).natAbs ≤ t.natAbs
    rw [hna, hx]
    exact Nat.le_mul_of_pos_left x hg
theorem lowI_neg {t b : Int} (h : b < 0) : lowI t b = lowI (-t) (-b) := by
  unfold lowI
  rw [if_pos h, if_neg (show ¬ (-b < 0) by omega), Int.natAbs_neg, Int.natAbs_neg]
theorem lowI_ok {t b : Int} (h : b ≠ 0) : Low (lowI t b).1 (lowI t b).2 ∧ (lowI t b).1 * b = (lowI t b).2 * t ∧ (lowI t b).2.natAbs ≤ b.natAbs ∧ (lowI t b).1.natAbs ≤ t.natAbs := by
  by_cases hb : 0 < b
  · obtain ⟨h1, h2, h3, h4⟩ := lowI_pos (t := t) hb
    exact ⟨h1, h2, by have := h1.pos; omega, h4⟩
  · have hn : b < 0 := by omega
    obtain ⟨h1, h2, h3, h4⟩ := lowI_pos (t := -t) (b := -b) (by omega)
    rw [← lowI_neg hn] at h1 h2 h3 h4
    refine ⟨h1, ?_, by have := h1.pos; omega, by rw [Int.natAbs_neg] at h4; exact h4⟩
    rw [Int.mul_neg, Int.mul_neg] at h2
    omega
theorem lowI_self {x y : Int} (h : Low x y) : lowI x y = (x, y) := by
  unfold lowI
  have := h.pos
  rw [if_neg (by omega), h.one]
  simp
/-- two in lowest terms that are worth the same are the same -/
theorem low_same {x y u v : Int} (h : Low x y) (k : Low u v) (e : x * v = u * y) : x = u ∧ y = v := by
  have hy := h.pos
  have hv := k.pos
  have e' : x.natAbs * v.natAbs = u.natAbs * y.natAbs := by rw [← Int.natAbs_mul, ← Int.natAbs_mul, e]
  have d1 : y.natAbs ∣ v.natAbs := by
    have : y.natAbs ∣ x.natAbs * v.natAbs := by rw [e']; exact Nat.dvd_mul_left _ _
    exact (Nat.Coprime.symm (show Nat.Coprime x.natAbs y.natAbs from h.one)).dvd_of_dvd_mul_left this
  have d2 : v.natAbs ∣ y.natAbs := by
    have : v.natAbs ∣ u.natAbs * y.natAbs := by rw [← e']; exact Nat.dvd_mul_left _ _
    exact (Nat.Coprime.symm (show Nat.Coprime u.natAbs v.natAbs from k.one)).dvd_of_dvd_mul_left this
  have ey : y.natAbs = v.natAbs := Nat.dvd_antisymm d1 d2
  have eyv : y = v := by omega
  subst eyv
  exact ⟨Int.eq_of_mul_eq_mul_right (by omega) e, rfl⟩
theorem fdiv_lowN {t g : Int} (hg : 0 < g) : t.fdiv (-g) = (-t) / g := by
  have e : t.fdiv (-g) = (-(-t)).fdiv (-g) := by rw [Int.neg_neg]
  rw [e, Int.neg_fdiv_neg, Int.fdiv_eq_ediv_of_nonneg _ (by omega)]
theorem fdiv_lowP {t g : Int} (hg : 0 < g) : t.fdiv g = t / g := Int.fdiv_eq_ediv_of_nonneg _ (by omega)
theorem gcd_log {t b : Int} (h : b ≠ 0) (hb : b.natAbs.log2 < 9000) : ((Nat.gcd t.natAbs b.natAbs : Nat) : Int).natAbs.log2 < 9000 := by
  rw [Int.natAbs_natCast]
  have h1 : Nat.gcd t.natAbs b.natAbs ≤ b.natAbs := Nat.gcd_le_right _ (by omega)
  have h2 : b.natAbs < 2 ^ (b.natAbs.log2 + 1) := Nat.lt_log2_self
  have h3 : (Nat.gcd t.natAbs b.natAbs).log2 < b.natAbs.log2 + 1 := PySem.Flt.log2_lt_of (by omega) (Nat.lt_of_le_of_lt h1 h2)
  omega

/-! ### whole, low, part -/
def sp_whole : Sp := fun vs H Q _ => ∃ n : Int, vs = [.int n] ∧ Q (.bl true) H
theorem ok__law_whole (T : Env K mg) : FnOk P w K mg base CX0 1 T.a__law_whole T.fd__law_whole ["_law_found"] sp_whole := by
  refine T.F__law_whole.ok sc__law_whole (fun vs H Q E h => ?_) (fun cdv A outer s H vs Q E hr h => ?_)
  · obtain ⟨n, rfl, _⟩ := h
    rfl
  · obtain ⟨n, rfl, q⟩ := h
    refine ⟨_, (pss_one (ps_ret (pe_and (pe_callB call_isi (by rfl) T.m_isinstance (by decide +kernel) (pa_cons (pv 0) (pa_cons (pe_bltn (v := .ty "int") (u := .type "int") (by rfl) T.m_int (by decide +kernel) rfl) pa_nil))) (pe_one (pe_not (pe_callB call_isi (by rfl) T.m_isinstance (by decide +kernel) (pa_cons (pv 0) (pa_cons (pe_bltn (v := .ty "bool") (u := .type "bool") (by rfl) T.m_bool (by decide +kernel) rfl) pa_nil)))))))), ?_⟩
    refine ⟨_, rfl, _, _, _, _, _, rfl, .ty _, .base (.int _), kit_ty (by decide +kernel), true, rfl, iteT ?_⟩
    exact ⟨_, rfl, _, _, _, _, _, rfl, .ty _, .base (.int _), kit_ty (by decide +kernel), false, rfl, q⟩
def sp_low : Sp := fun vs H Q _ => ∃ t b : Int, vs = [.int t, .int b] ∧ b ≠ 0 ∧ b.natAbs.log2 < 9000 ∧
  ∀ p, H p = none → Q (.ref p) (upd H p (.tup [.int (lowI t b).1, .int (lowI t b).2]))
theorem gcd_turn {a b : Nat} (h : 0 < b) : Nat.gcd b (a % b) = Nat.gcd a b := by
  rw [Nat.gcd_comm a b, Nat.gcd_rec b a, Nat.gcd_comm]
theorem ok__law_low (T : Env K mg) : FnOk P w K mg base CX0 1 T.a__law_low T.fd__law_low ["_law_top", "_law_bottom"] sp_low := by
  refine T.F__law_low.ok sc__law_low (fun vs H Q E h => ?_) (fun cdv A outer s H vs Q E hr h => ?_)
  · obtain ⟨t, b, rfl, _⟩ := h
    rfl
  · obtain ⟨t, b, rfl, hb, hlog, q⟩ := h
    refine ⟨_, (pss_cons (ps_set (i := 2) sc__law_low.nd rfl (.inl rfl) (pe_callB call_abs (by rfl) T.m_abs (by decide +kernel) (pa_cons (pv 0) pa_nil)))
 (pss_cons (ps_set (i := 3) sc__law_low.nd rfl (.inl rfl) (pe_callB call_abs (by rfl) T.m_abs (by decide +kernel) (pa_cons (pv 1) pa_nil)))
 (pss_cons (ps_while PassesOwn.never (pt_cmpR op_gt (pv 3) pe_int (nomark _))
 (pss_one (ps_par (i := 2) (j := 3) (by rfl) sc__law_low.nd rfl rfl (by decide) rfl rfl (pa_cons (pv 3) (pa_cons (pe_op op_mod (pv 2) (pv 3)) pa_nil)) (by rfl))))
 (C8.pss_cut (ps_if (pt_cmpR op_lt (pv 1) pe_int (nomark _))
 (pss_cons (ps_set (i := 0) sc__law_low.nd rfl (.inl rfl) (pe_un un_neg (pv 0)))
 (pss_one (ps_set (i := 1) sc__law_low.nd rfl (.inl rfl) (pe_un un_neg (pv 1)))))
 pss_nil)
 (pss_one (ps_ret (pe_tup (pa_cons (pe_op op_fdivX (pv 0) (pv 2)) (pa_cons (pe_op op_fdivX (pv 1) (pv 2)) pa_nil))))))))), ?_⟩
    refine ⟨_, rfl, _, rfl, _, rfl, _, rfl, ?_⟩
    have ab : ∀ z : Int, (if z < 0 then -z else z) = (z.natAbs : Int) := fun z => by split <;> omega
    rw [ab, ab]
    refine while_by (fun σ H' => H = H' ∧ ∃ x y : Nat, σ = [some (.int t), some (.int b), some (.int (x : Int)), some (.int (y : Int))] ∧ Nat.gcd x y = Nat.gcd t.natAbs b.natAbs)
      (fun σ _ => match σ with | [_, _, _, some (.int y)] => y.toNat | _ => 0) ⟨rfl, _, _, rfl, rfl⟩ ?_ ?_
    · rintro _ _ ⟨rfl, x, y, rfl, hg⟩
      refine ⟨_, rfl, _, _, rfl, rfl, _, rfl, ite2 (fun hd => ?_) (fun hd => ?_)⟩
      · have hy : 0 < y := by have := of_decide_eq_true hd; omega
        refine ⟨_, rfl, _, rfl, _, rfl, _, _, rfl, rfl, by omega, _, _, rfl, ⟨rfl, y, x % y, ?_, ?_⟩, ?_⟩
        · rw [Int.natCast_emod]; rfl
        · rw [gcd_turn hy]; exact hg
        · show ((x : Int) % (y : Int)).toNat < ((y : Int)).toNat
          have : x % y < y := Nat.mod_lt _ hy
          rw [← Int.natCast_emod]
          omega
      · have hy : y = 0 := by have h1 : ¬ ((0 : Int) < (y : Int)) := nd hd; omega
        subst hy
        rw [Nat.gcd_zero_right] at hg
        have hgp : 0 < Nat.gcd t.natAbs b.natAbs := Nat.gcd_pos_of_pos_right _ (by omega)
        have hgl := gcd_log (t := t) hb hlog
        rw [hg]
        generalize hG : Nat.gcd t.natAbs b.natAbs = g at *
        refine ⟨fun σ' H2 => H = H2 ∧ ∃ y0 : Option V, ((b < 0 ∧ σ' = [some (.int (-t)), some (.int (-b)), some (.int (g : Int)), y0]) ∨ (¬ b < 0 ∧ σ' = [some (.int t), some (.int b), some (.int (g : Int)), y0])), ?_, ?_⟩
        · refine ⟨_, rfl, _, _, rfl, rfl, _, rfl, ite2 (fun hd => ?_) (fun hd => ?_)⟩
          · exact ⟨_, rfl, _, rfl, _, rfl, _, rfl, rfl, _, .inl ⟨of_decide_eq_true hd, rfl⟩⟩
          · exact ⟨rfl, _, .inr ⟨nd hd, rfl⟩⟩
        · rintro σ' H2 ⟨rfl, y0, ⟨hn, rfl⟩ | ⟨hn, rfl⟩⟩
          · refine ⟨_, rfl, _, rfl, _, _, rfl, rfl, ⟨by omega, hgl⟩, _, rfl, _, rfl, _, _, rfl, rfl, ⟨by omega, hgl⟩, (by show 2 ≤ sizeLine; decide), fun p hp => ?_⟩
            have := q p hp
            unfold lowI at this
            rw [if_pos hn, hG] at this
            show Q (.ref p) (upd H p (.tup [.int ((-t).fdiv (g : Int)), .int ((-b).fdiv (g : Int))]))
            rw [fdiv_lowP (by omega), fdiv_lowP (by omega)]
            exact this
          · refine ⟨_, rfl, _, rfl, _, _, rfl, rfl, ⟨by omega, hgl⟩, _, rfl, _, rfl, _, _, rfl, rfl, ⟨by omega, hgl⟩, (by show 2 ≤ sizeLine; decide), fun p hp => ?_⟩
            have := q p hp
            unfold lowI at this
            rw [if_neg hn, hG] at this
            show Q (.ref p) (upd H p (.tup [.int (t.fdiv (g : Int)), .int (b.fdiv (g : Int))]))
            rw [fdiv_lowP (by omega), fdiv_lowP (by omega)]
            exact this
    · rintro σ H' Q1 Q2 hQ ⟨v, e, i, j, e1, e2, k, e3, q1⟩
      exact ⟨v, e, i, j, e1, e2, k, e3, hQ _ _ q1⟩
/-- what is told of a pair of ints: whether it is a fraction in lowest terms -/
def sp_part (K : PySem.W.Frag) : Sp := fun vs H Q _ => ∃ (p : Addr) (x y : Int), vs = [.ref p] ∧ H p = some (.tup [.int x, .int y]) ∧ Low x y ∧ y.natAbs.log2 < 9000 ∧ ∀ H', Same H H' → Q (.bl true) H'
theorem ok__law_part (T : Env K mg) : FnOk P w K mg base CX0 2 T.a__law_part T.fd__law_part ["_law_found"] (sp_part K) := by
  refine T.F__law_part.ok sc__law_part (fun vs H Q E h => ?_) (fun cdv A outer s H vs Q E hr h => ?_)
  · obtain ⟨p, x, y, rfl, _⟩ := h
    rfl
  · obtain ⟨p, x, y, rfl, hp, hL, hlog, q⟩ := h
    refine ⟨_, (pss_cons (ps_if (PW.pt (pw_or (pt_not (pt_val (pe_callB call_isi (by rfl) T.m_isinstance (by decide +kernel) (pa_cons (pv 0) (pa_cons (pe_bltn (v := .ty "tuple") (u := .type "tuple") (by rfl) T.m_tuple (by decide +kernel) rfl) pa_nil))))) (pw_or1 (pt_cmpR op_ne (pe_callB call_len_seq (by rfl) T.m_len (by decide +kernel) (pa_cons (pv 0) pa_nil)) pe_int (nomark _)))))
 (pss_one (ps_ret pe_bl))
 pss_nil)
 (pss_cons (ps_if (PW.pt (pw_or (pt_not (pt_val (pe_call (ok__law_whole T) (hr.mono (by decide)) (by rfl) T.g__law_whole T.F__law_whole.kp T.b__law_whole .nil pass0 (pa_cons (pe_ix ix_tup (pv 0) pe_int (fun _ _ => rfl)) pa_nil)))) (pw_or (pt_not (pt_val (pe_call (ok__law_whole T) (hr.mono (by decide)) (by rfl) T.g__law_whole T.F__law_whole.kp T.b__law_whole .nil pass0 (pa_cons (pe_ix ix_tup (pv 0) pe_int (fun _ _ => rfl)) pa_nil)))) (pw_or1 (pt_cmpR op_le (pe_ix ix_tup (pv 0) pe_int (fun _ _ => rfl)) pe_int (nomark _))))))
 (pss_one (ps_ret pe_bl))
 pss_nil)
 (pss_one (ps_ret (pe_cmpR (op_eqD hr.units) (pe_call (ok__law_low T) (hr.mono (by decide)) (by rfl) T.g__law_low T.F__law_low.kp T.b__law_low .nil pass0 (pa_cons (pe_ix ix_tup (pv 0) pe_int (fun _ _ => rfl)) (pa_cons (pe_ix ix_tup (pv 0) pe_int (fun _ _ => rfl)) pa_nil))) (pv 0) (nomark _)))))), ?_⟩
    have hS : SqT K H p [.int x, .int y] := .inl (.inl hp)
    have hpos := hL.pos
    refine ⟨_, rfl, _, _, _, _, _, rfl, .ty _, .base (.tup hp), kit_ty (by decide +kernel), true, rfl, ?_⟩
    show if false = true then _ else _
    rw [if_neg Bool.false_ne_true]
    refine ⟨_, rfl, _, _, rfl, .inr hS, rfl, _, rfl, ?_⟩
    refine iteNS rfl ?_
    refine ⟨_, rfl, _, _, _, _, rfl, rfl, hS, atI_nat (j := 0) rfl, _, rfl, true, rfl, iteF ?_⟩
    refine ⟨_, rfl, _, _, _, _, rfl, rfl, hS, atI_nat (j := 1) rfl, _, rfl, true, rfl, iteF ?_⟩
    refine ⟨_, rfl, _, _, _, _, rfl, rfl, hS, atI_nat (j := 1) rfl, _, _, rfl, rfl, _, rfl, ?_⟩
    rw [decide_eq_false (show ¬ y ≤ 0 by omega)]
    refine iteF ?_
    refine ⟨_, rfl, _, _, _, _, rfl, rfl, hS, atI_nat (j := 0) rfl, _, rfl, _, _, _, _, rfl, rfl, hS, atI_nat (j := 1) rfl, x, y, rfl, by omega, hlog, fun r hr' => ?_⟩
    rw [lowI_self hL]
    have hd : ∀ z H2, H2 z = some (.tup [.int x, .int y]) → Dp K H2 (.ref z) (.tuple [.int x, .int y]) := fun z H2 e => .tup (.inl (.inl e)) (.cons (.int x) (.cons (.int y) .nil))
    have hpr : p ≠ r := ne_of_none hp hr'
    refine ⟨_, rfl, _, _, hd r _ upd_same, hd p _ (by rw [upd_ne hpr]; exact hp), rfl, rfl, ?_⟩
    rw [SeqAt.eqv_refl _ (by rfl)]
    exact q _ (same_new hr')

/-! ### lowest -/
def sp_lowest (C : Addr) : Sp := fun vs H Q E => ∃ t b : Int, vs = [.int t, .int b] ∧ b.natAbs.log2 < 9000 ∧ (b = 0 → E (.ref C) none H) ∧
  (b ≠ 0 → ∀ p, H p = none → Q (.ref p) (upd H p (.tup [.int (lowI t b).1, .int (lowI t b).2])))
theorem ok_lowest (T : Env K mg) : FnOk P w K mg base (L2.CX P w) 1 T.a_lowest T.fd_lowest ["top", "bottom"] (sp_lowest T.C_NoFraction) := by
  refine T.F_lowest.okX sc_lowest (fun vs H Q E h => ?_) (fun cdv A outer s H vs Q E hr h => ?_)
  · obtain ⟨t, b, rfl, _⟩ := h
    rfl
  · obtain ⟨t, b, rfl, hlog, k0, k1⟩ := h
    refine ⟨_, (pss_cons (ps_if (pt_cmpR op_eq (pv 1) pe_int (nomark _))
 (pss_one (ps_raise rfl (takes_of rfl rfl rfl rfl) (pmk_own PySem.F.excBase_ValueError T.x_NoFraction T.c_NoFraction T.k_NoFraction (raises_own T.bs_NoFraction T.ty_NoFraction) rfl)))
 pss_nil)
 (pss_cons (ps_set (i := 2) sc_lowest.nd rfl (.inl rfl) (pe_callBfun cr_gcd (by rfl) T.m_gcd (pa_cons (pv 0) (pa_cons (pv 1) pa_nil))))
 (C8.pss_cut (ps_if (pt_cmpR op_lt (pv 1) pe_int (nomark _))
 (pss_one (ps_set (i := 2) sc_lowest.nd rfl (.inl rfl) (pe_un un_neg (pv 2))))
 pss_nil)
 (pss_one (ps_ret (pe_tup (pa_cons (pe_op op_fdivX (pv 0) (pv 2)) (pa_cons (pe_op op_fdivX (pv 1) (pv 2)) pa_nil)))))))), ?_⟩
    refine ⟨_, rfl, rfl, _, rfl, ite2 (fun hd => ?_) (fun hd => ?_)⟩
    · exact k0 (V.int.inj (of_decide_eq_true hd))
    · have hb : b ≠ 0 := fun z => hd (by rw [z]; rfl)
      have q := k1 hb
      have hgp : 0 < Nat.gcd t.natAbs b.natAbs := Nat.gcd_pos_of_pos_right _ (by omega)
      have hgl := gcd_log (t := t) hb hlog
      refine ⟨_, rfl, _, rfl, _, _, rfl, ?_⟩
      generalize hG : Nat.gcd t.natAbs b.natAbs = g at *
      refine ⟨fun σ' H2 => H = H2 ∧ ((b < 0 ∧ σ' = [some (.int t), some (.int b), some (.int (-(g : Int)))]) ∨ (¬ b < 0 ∧ σ' = [some (.int t), some (.int b), some (.int (g : Int))])), ?_, ?_⟩
      · refine ⟨_, rfl, _, _, rfl, rfl, _, rfl, ite2 (fun hd => ?_) (fun hd => ?_)⟩
        · exact ⟨_, rfl, _, rfl, rfl, .inl ⟨of_decide_eq_true hd, rfl⟩⟩
        · exact ⟨rfl, .inr ⟨nd hd, rfl⟩⟩
      · rintro σ' H2 ⟨rfl, ⟨hn, rfl⟩ | ⟨hn, rfl⟩⟩
        · have hgn : (-(g : Int)).natAbs.log2 < 9000 := by rw [Int.natAbs_neg]; exact hgl
          refine ⟨_, rfl, _, rfl, _, _, rfl, rfl, ⟨by omega, hgn⟩, _, rfl, _, rfl, _, _, rfl, rfl, ⟨by omega, hgn⟩, (by show 2 ≤ sizeLine; decide), fun p hp => ?_⟩
          have := q p hp
          unfold lowI at this
          rw [if_pos hn, hG] at this
          show Q (.ref p) (upd H p (.tup [.int (t.fdiv (-(g : Int))), .int (b.fdiv (-(g : Int)))]))
          rw [fdiv_lowN (by omega), fdiv_lowN (by omega)]
          exact this
        · refine ⟨_, rfl, _, rfl, _, _, rfl, rfl, ⟨by omega, hgl⟩, _, rfl, _, rfl, _, _, rfl, rfl, ⟨by omega, hgl⟩, (by show 2 ≤ sizeLine; decide), fun p hp => ?_⟩
          have := q p hp
          unfold lowI at this
          rw [if_neg hn, hG] at this
          show Q (.ref p) (upd H p (.tup [.int (t.fdiv (g : Int)), .int (b.fdiv (g : Int))]))
          rw [fdiv_lowP (by omega), fdiv_lowP (by omega)]
          exact this

theorem mid_ok {x r B : Int} (h0 : -B ≤ x) (h1 : x ≤ B) (hr0 : 0 ≤ r) {C : Int} (hr1 : r ≤ C) (hB : 0 ≤ B) : -(B * C) ≤ x * r ∧ x * r ≤ B * C := by
  have a : x * r ≤ B * r := Int.mul_le_mul_of_nonneg_right h1 hr0
  have b : B * r ≤ B * C := Int.mul_le_mul_of_nonneg_left hr1 hB
  have c : -B * r ≤ x * r := Int.mul_le_mul_of_nonneg_right h0 hr0
  rw [Int.neg_mul] at c
  omega
/-! ### the law -/
def sp_refused : Sp := fun vs H Q _ => ∃ t : Int, vs = [.int t, .int 0] ∧ Q (.bl true) H
theorem ok__law_refused (T : Env K mg) : FnOk P w K mg base CX0 2 T.a__law_refused T.fd__law_refused ["_law_top", "_law_bottom"] sp_refused := by
  refine T.F__law_refused.ok sc__law_refused (fun vs H Q E h => ?_) (fun cdv A outer s H vs Q E hr h => ?_)
  · obtain ⟨t, rfl, _⟩ := h
    rfl
  · obtain ⟨t, rfl, q⟩ := h
    refine ⟨_, (pss_cons (ps_try_as (i := 2) rfl rfl sc__law_refused.nd rfl rfl ⟨rfl, by decide, .inl T.c_MeadError⟩ takes0 (fun W pn xe tk _ => (pss_one (ps_expr (pe_callS (ok_lowest T) (hr.mono (by decide)) (by rfl) T.g_lowest T.F_lowest.kp T.b_lowest (fun σ => passAt tk σ) (pa_cons (pv 0) (pa_cons (pv 1) pa_nil)))))) (fun a oe cls d pn hz hf => (pss_guard (P := cls = .ref T.C_NoFraction ∧ d = none) (fun hP => (pss_one (ps_ret (pe_and (pe_callB (call_isE T.e_NoFraction (zc_of hz hP) hf) (by rfl) T.m_isinstance (by decide +kernel) (pa_cons (pv 2) (pa_cons (pe_glob (v := .ref T.C_NoFraction) rfl T.c_NoFraction rfl) pa_nil))) (pe_one (pe_callB (call_isE T.e_NoFraction (zc_of hz hP) hf) (by rfl) T.m_isinstance (by decide +kernel) (pa_cons (pv 2) (pa_cons (pe_bltn (v := .ty "ValueError") (u := .type "ValueError") (by rfl) T.m_ValueError (by decide +kernel) rfl) pa_nil)))))))))))
 (pss_one (ps_ret pe_bl))), ?_⟩
    refine ⟨_, rfl, _, rfl, t, 0, rfl, by decide, fun _ => ?_, fun h => absurd rfl h⟩
    refine ⟨true, PySem.W.exm_ref T.bs_MeadError T.e_MeadError.hd T.ty_MeadError T.sub_NoFraction_MeadError, fun _ a ha => ⟨⟨rfl, rfl⟩, ?_⟩, fun z => nomatch z⟩
    refine ⟨_, rfl, _, _, _, rfl, (fun _ z => z), T.kit_NoFraction_NoFraction, true, rfl, iteT ?_⟩
    exact ⟨_, rfl, _, _, _, rfl, (fun _ z => z), T.kit_NoFraction_ValueError, q⟩
def sp_law (K : PySem.W.Frag) : Sp := fun vs H Q _ => ∃ (a : Addr) (ns : List Int), vs = [.ref a] ∧ SqL K H a (ns.map V.int) ∧ ns.length ≤ 63 ∧ ∀ H', Q (.bl true) H'
theorem ok_law (T : Env K mg) : FnOk P w K mg base CX0 3 T.a_law T.fd_law ["_law_script"] (sp_law K) := by
  refine T.F_law.ok sc_law (fun vs H Q E h => ?_) (fun cdv A outer s H vs Q E hr h => ?_)
  · obtain ⟨a, ns, rfl, _⟩ := h
    rfl
  · obtain ⟨a, ns, rfl, hS, hl, q⟩ := h
    refine ⟨_, (pss_cons (ps_set (i := 1) sc_law.nd rfl (.inl rfl) (pe_call (ok__law_flow T) (hr.mono (by decide)) (by rfl) T.g__law_flow T.F__law_flow.kp T.b__law_flow .nil pass0 (pa_cons (pv 0) (pa_cons pe_int pa_nil))))
 (pss_cons (ps_set (i := 2) sc_law.nd rfl (.inl rfl) (pe_op op_sub (pe_op op_mod (pe_ix ix_list (pv 1) pe_int (fun _ _ => rfl)) pe_int) pe_int))
 (pss_cons (ps_set (i := 3) sc_law.nd rfl (.inl rfl) (pe_op op_sub (pe_op op_mod (pe_ix ix_list (pv 1) pe_int (fun _ _ => rfl)) pe_int) pe_int))
 (C8.pss_cut (ps_if (pt_cmpR op_eq (pe_op op_mod (pe_ix ix_list (pv 1) pe_int (fun _ _ => rfl)) pe_int) pe_int (nomark _))
 (pss_cons (ps_set (i := 2) sc_law.nd rfl (.inl rfl) (pe_op op_mulU (pv 2) (pe_op op_add pe_int (pe_ix ix_list (pv 1) pe_int (fun _ _ => rfl)))))
 (pss_one (ps_set (i := 3) sc_law.nd rfl (.inl rfl) (pe_op op_mulU (pv 3) (pe_op op_add pe_int (pe_ix ix_list (pv 1) pe_int (fun _ _ => rfl)))))))
 pss_nil)
 (C8.pss_cut (ps_if (pt_cmpR op_eq (pe_op op_mod (pe_ix ix_list (pv 1) pe_int (fun _ _ => rfl)) pe_int) pe_int (nomark _))
 (pss_cons (ps_set (i := 2) sc_law.nd rfl (.inl rfl) (pe_op op_mulU (pv 2) (pe_op op_add (pe_op op_pow pe_int pe_int) (pe_ix ix_list (pv 1) pe_int (fun _ _ => rfl)))))
 (pss_one (ps_set (i := 3) sc_law.nd rfl (.inl rfl) (pe_op op_mulU (pv 3) (pe_op op_add (pe_op op_pow pe_int pe_int) (pe_ix ix_list (pv 1) pe_int (fun _ _ => rfl)))))))
 pss_nil)
 (pss_cons (ps_if (pt_cmpR op_eq (pv 3) pe_int (nomark _))
 (pss_one (ps_ret (pe_call (ok__law_refused T) (hr.mono (by decide)) (by rfl) T.g__law_refused T.F__law_refused.kp T.b__law_refused .nil pass0 (pa_cons (pv 2) (pa_cons (pv 3) pa_nil)))))
 pss_nil)
 (pss_cons (ps_set (i := 4) sc_law.nd rfl (.inl rfl) (pe_call (ok_lowest T) (hr.mono (by decide)) (by rfl) T.g_lowest T.F_lowest.kp T.b_lowest .nil passL (pa_cons (pv 2) (pa_cons (pv 3) pa_nil))))
 (pss_one (ps_ret (pe_and (pe_call (ok__law_part T) (hr.mono (by decide)) (by rfl) T.g__law_part T.F__law_part.kp T.b__law_part .nil pass0 (pa_cons (pv 4) pa_nil)) (pe_one (pe_cmpR op_eq (pe_op op_mulU (pe_ix ix_tup (pv 4) pe_int (fun _ _ => rfl)) (pv 3)) (pe_op op_mulU (pe_ix ix_tup (pv 4) pe_int (fun _ _ => rfl)) (pv 2)) (nomark _))))))))))))), ?_⟩
    refine ⟨_, rfl, a, ns, 6, rfl, hS, hl, by decide, by decide, fun H1 p rs hs hp hlen hro hrow => ?_⟩
    obtain ⟨r0, r1, r2, r3, r4, r5, rfl⟩ : ∃ r0 r1 r2 r3 r4 r5, rs = [r0, r1, r2, r3, r4, r5] := by
      match rs, hlen with
      | [a, b, c, d, e, f], _ => exact ⟨a, b, c, d, e, f, rfl⟩
    have hR : SqL K H1 p ([r0, r1, r2, r3, r4, r5].map V.int) := .inl (.inl hrow)
    have b3 := hro r3 (by simp)
    have b4 := hro r4 (by simp)
    have b5 := hro r5 (by simp)
    refine ⟨_, rfl, p, _, _, _, rfl, rfl, hR, atI_nat (j := 1) rfl, _, _, rfl, rfl, (by show (0 : Int) < _; decide), _, _, rfl, rfl, ?_⟩
    refine ⟨_, rfl, p, _, _, _, rfl, rfl, hR, atI_nat (j := 2) rfl, _, _, rfl, rfl, (by show (0 : Int) < _; decide), _, _, rfl, rfl, ?_⟩
    refine ⟨fun σ' H2 => H1 = H2 ∧ ∃ t b : Int, σ' = [some (.ref a), some (.ref p), some (.int t), some (.int b), none] ∧ -20000000 ≤ t ∧ t ≤ 20000000 ∧ -20000000 ≤ b ∧ b ≤ 20000000, ?_, ?_⟩
    · refine ⟨_, rfl, p, _, _, _, rfl, rfl, hR, atI_nat (j := 0) rfl, _, _, rfl, rfl, (by show (0 : Int) < _; decide), rfl, _, rfl, ite2 (fun _ => ?_) (fun _ => ?_)⟩
      · refine ⟨_, rfl, _, rfl, p, _, _, _, rfl, rfl, hR, atI_nat (j := 3) rfl, _, _, rfl, rfl, _, _, rfl, rfl, mulR (by omega) (by omega), ?_⟩
        refine ⟨_, rfl, _, rfl, p, _, _, _, rfl, rfl, hR, atI_nat (j := 3) rfl, _, _, rfl, rfl, _, _, rfl, rfl, mulR (by omega) (by omega), ?_⟩
        have m1 := mid_ok (x := r1 % 25 - 12) (r := 1 + r3) (B := 20) (C := 1000000) (by omega) (by omega) (by omega) (by omega) (by omega)
        have m2 := mid_ok (x := r2 % 25 - 12) (r := 1 + r3) (B := 20) (C := 1000000) (by omega) (by omega) (by omega) (by omega) (by omega)
        exact ⟨rfl, _, _, rfl, by omega, by omega, by omega, by omega⟩
      · exact ⟨rfl, _, _, rfl, by omega, by omega, by omega, by omega⟩
    · rintro _ _ ⟨rfl, t, b, rfl, ht0, ht1, hb0, hb1⟩
      refine ⟨fun σ' H2 => H1 = H2 ∧ ∃ t b : Int, σ' = [some (.ref a), some (.ref p), some (.int t), some (.int b), none] ∧ t.natAbs < 2 ^ 400 ∧ b.natAbs < 2 ^ 400, ?_, ?_⟩
      · refine ⟨_, rfl, p, _, _, _, rfl, rfl, hR, atI_nat (j := 0) rfl, _, _, rfl, rfl, (by show (0 : Int) < _; decide), rfl, _, rfl, ite2 (fun _ => ?_) (fun _ => ?_)⟩
        · refine ⟨_, rfl, _, _, rfl, rfl, ⟨by decide, by decide, by decide⟩, _, rfl, p, _, _, _, rfl, rfl, hR, atI_nat (j := 4) rfl, _, _, rfl, rfl, _, _, rfl, rfl, mulL (by omega) (by omega), ?_⟩
          refine ⟨_, rfl, _, _, rfl, rfl, ⟨by decide, by decide, by decide⟩, _, rfl, p, _, _, _, rfl, rfl, hR, atI_nat (j := 5) rfl, _, _, rfl, rfl, _, _, rfl, rfl, mulL (by omega) (by omega), ?_⟩
          have m1 := mid_ok (x := t) (r := 10 ^ 40 + r4) (B := 20000000) (C := 2 ^ 300) ht0 ht1 (by omega) (by omega) (by omega)
          have m2 := mid_ok (x := b) (r := 10 ^ 30 + r5) (B := 20000000) (C := 2 ^ 300) hb0 hb1 (by omega) (by omega) (by omega)
          exact ⟨rfl, _, _, rfl, (by show (t * (10 ^ 40 + r4)).natAbs < 2 ^ 400; omega), (by show (b * (10 ^ 30 + r5)).natAbs < 2 ^ 400; omega)⟩
        · exact ⟨rfl, _, _, rfl, by omega, by omega⟩
      · rintro _ _ ⟨rfl, t, b, rfl, ht, hb⟩
        have hlog := log_small (by decide) hb (by decide)
        refine ⟨_, rfl, rfl, _, rfl, ite2 (fun hd => ?_) (fun hd => ?_)⟩
        · have e0 : b = 0 := V.int.inj (of_decide_eq_true hd)
          subst e0
          exact ⟨_, rfl, _, rfl, t, rfl, q _⟩
        · have hb0 : b ≠ 0 := fun z => hd (by rw [z]; rfl)
          refine ⟨_, rfl, _, rfl, t, b, rfl, hlog, fun z => absurd z hb0, fun _ c hc => ?_⟩
          obtain ⟨hL, hx, hy1, hx1⟩ := lowI_ok (t := t) hb0
          have hy2 : (lowI t b).2.natAbs < 2 ^ 400 := Nat.lt_of_le_of_lt hy1 hb
          have hx2 : (lowI t b).1.natAbs < 2 ^ 400 := Nat.lt_of_le_of_lt hx1 ht
          generalize lowI t b = uv at *
          obtain ⟨u, v⟩ := uv
          refine ⟨_, rfl, c, u, v, rfl, upd_same, hL, log_small (by decide) hy2 (by decide), fun H3 h3 => ⟨true, rfl, iteT ?_⟩⟩
          have hF : SqT K H3 c [.int u, .int v] := .inl (.inl (h3 _ _ upd_same))
          refine ⟨_, rfl, c, _, _, _, rfl, rfl, hF, atI_nat (j := 0) rfl, _, rfl, _, _, rfl, rfl, (wide_mul hx2 hb (by decide) (by decide) (by decide)).ok, ?_⟩
          refine ⟨_, rfl, c, _, _, _, rfl, rfl, hF, atI_nat (j := 1) rfl, _, rfl, _, _, rfl, rfl, (wide_mul hy2 ht (by decide) (by decide) (by decide)).ok, rfl, ?_⟩
          rw [decide_eq_true (show V.int (u * b) = V.int (v * t) from congrArg V.int hx)]
          exact q _
theorem all_mk {l : PySem.W.OpenLaw} {w : World} {K : PySem.W.Frag} {h : Heap} {mg : Str → Option Value} {fa C_MeadError C_NoFraction f_lowest f__law_flow f__law_whole f__law_low f__law_part f__law_refused f_law : Addr} (X : K.In h) (G : h.Ns mainGlobals mg) (hfa : mg "law" = some (.ref fa))
    {od_lowest an_lowest : Option Addr} {sl_lowest : Array (Option Value)} {oc_lowest kV_lowest dc_lowest pm_lowest cd_lowest ct_lowest : Value}
    {od__law_flow an__law_flow : Option Addr} {sl__law_flow : Array (Option Value)} {oc__law_flow kV__law_flow dc__law_flow pm__law_flow cd__law_flow ct__law_flow : Value}
    {od__law_whole an__law_whole : Option Addr} {sl__law_whole : Array (Option Value)} {oc__law_whole kV__law_whole dc__law_whole pm__law_whole cd__law_whole ct__law_whole : Value}
    {od__law_low an__law_low : Option Addr} {sl__law_low : Array (Option Value)} {oc__law_low kV__law_low dc__law_low pm__law_low cd__law_low ct__law_low : Value}
    {od__law_part an__law_part : Option Addr} {sl__law_part : Array (Option Value)} {oc__law_part kV__law_part dc__law_part pm__law_part cd__law_part ct__law_part : Value}
    {od__law_refused an__law_refused : Option Addr} {sl__law_refused : Array (Option Value)} {oc__law_refused kV__law_refused dc__law_refused pm__law_refused cd__law_refused ct__law_refused : Value}
    {od_law an_law : Option Addr} {sl_law : Array (Option Value)} {oc_law kV_law dc_law pm_law cd_law ct_law : Value}
    (q1_MeadError : PySem.W.nsIn K mainGlobals "MeadError" = some (some (.ref C_MeadError)))
    (q2_MeadError : PySem.W.excIn K C_MeadError [.type "ValueError", .type "Exception", .type "BaseException", .type "object"] "ValueError.__new__" = true)
    (q3_MeadError : PySem.W.keepIn K (.ref C_MeadError) = true)
    (q4_MeadError : PySem.W.subIn K (.ref C_MeadError) (.type "BaseException") = some true)
    (q5_MeadError : PySem.W.typeIn K (.ref C_MeadError) = some (.type "type"))
    (e1_MeadError : PySem.W.findIn K (.ref C_MeadError) "__getattribute__" = some (some (.builtin "BaseException.__getattribute__")))
    (e2_MeadError : PySem.W.findIn K (.ref C_MeadError) "__getattr__" = some none)
    (e3_MeadError : PySem.W.hasDictIn K C_MeadError = true)
    (e4_MeadError : PySem.W.findIn K (.ref C_MeadError) "__class__" = some (some (.builtin "object.__class__")))
    (e5_MeadError : PySem.W.specialIn K (.builtin "object.__class__") "__get__" = some (some (.builtin "getset_descriptor.__get__")))
    (e6_MeadError : PySem.W.takesIn K (.builtin "object.__class__") = some true)
    (e7_MeadError : PySem.W.mroIn K C_MeadError (.type "object") = some true)
    (q1_NoFraction : PySem.W.nsIn K mainGlobals "NoFraction" = some (some (.ref C_NoFraction)))
    (q2_NoFraction : PySem.W.excIn K C_NoFraction [.type "ValueError", .type "Exception", .type "BaseException", .type "object"] "ValueError.__new__" = true)
    (q3_NoFraction : PySem.W.keepIn K (.ref C_NoFraction) = true)
    (q4_NoFraction : PySem.W.subIn K (.ref C_NoFraction) (.type "BaseException") = some true)
    (q5_NoFraction : PySem.W.typeIn K (.ref C_NoFraction) = some (.type "type"))
    (e1_NoFraction : PySem.W.findIn K (.ref C_NoFraction) "__getattribute__" = some (some (.builtin "BaseException.__getattribute__")))
    (e2_NoFraction : PySem.W.findIn K (.ref C_NoFraction) "__getattr__" = some none)
    (e3_NoFraction : PySem.W.hasDictIn K C_NoFraction = true)
    (e4_NoFraction : PySem.W.findIn K (.ref C_NoFraction) "__class__" = some (some (.builtin "object.__class__")))
    (e5_NoFraction : PySem.W.specialIn K (.builtin "object.__class__") "__get__" = some (some (.builtin "getset_descriptor.__get__")))
    (e6_NoFraction : PySem.W.takesIn K (.builtin "object.__class__") = some true)
    (e7_NoFraction : PySem.W.mroIn K C_NoFraction (.type "object") = some true)
    (s_NoFraction_MeadError : PySem.W.subIn K (.ref C_NoFraction) (.ref C_MeadError) = some true)
    (t_NoFraction_NoFraction : PySem.W.kitOne K (.ref C_NoFraction) (.ref C_NoFraction) = some true)
    (t_NoFraction_ValueError : PySem.W.kitOne K (.ref C_NoFraction) (.type "ValueError") = some true)
    (a_lowest : PySem.W.nsIn K mainGlobals "lowest" = some (some (.ref f_lowest)))
    (l_lowest : K.lookup f_lowest = some ⟨oc_lowest, od_lowest, .func (PySem.W.fnOf "lowest" "lowest" (defArgs s_lowest) (defBody s_lowest) (defScope s_lowest) .none kV_lowest dc_lowest pm_lowest an_lowest cd_lowest ct_lowest), sl_lowest⟩)
    (c_lowest : PySem.W.codeIn K cd_lowest "lowest" = true)
    (k_lowest : PySem.W.keepIn K (.ref f_lowest) = true)
    (a__law_flow : PySem.W.nsIn K mainGlobals "_law_flow" = some (some (.ref f__law_flow)))
    (l__law_flow : K.lookup f__law_flow = some ⟨oc__law_flow, od__law_flow, .func (PySem.W.fnOf "_law_flow" "_law_flow" (defArgs s__law_flow) (defBody s__law_flow) (defScope s__law_flow) .none kV__law_flow dc__law_flow pm__law_flow an__law_flow cd__law_flow ct__law_flow), sl__law_flow⟩)
    (c__law_flow : PySem.W.codeIn K cd__law_flow "_law_flow" = true)
    (k__law_flow : PySem.W.keepIn K (.ref f__law_flow) = true)
    (a__law_whole : PySem.W.nsIn K mainGlobals "_law_whole" = some (some (.ref f__law_whole)))
    (l__law_whole : K.lookup f__law_whole = some ⟨oc__law_whole, od__law_whole, .func (PySem.W.fnOf "_law_whole" "_law_whole" (defArgs s__law_whole) (defBody s__law_whole) (defScope s__law_whole) .none kV__law_whole dc__law_whole pm__law_whole an__law_whole cd__law_whole ct__law_whole), sl__law_whole⟩)
    (c__law_whole : PySem.W.codeIn K cd__law_whole "_law_whole" = true)
    (k__law_whole : PySem.W.keepIn K (.ref f__law_whole) = true)
    (a__law_low : PySem.W.nsIn K mainGlobals "_law_low" = some (some (.ref f__law_low)))
    (l__law_low : K.lookup f__law_low = some ⟨oc__law_low, od__law_low, .func (PySem.W.fnOf "_law_low" "_law_low" (defArgs s__law_low) (defBody s__law_low) (defScope s__law_low) .none kV__law_low dc__law_low pm__law_low an__law_low cd__law_low ct__law_low), sl__law_low⟩)
    (c__law_low : PySem.W.codeIn K cd__law_low "_law_low" = true)
    (k__law_low : PySem.W.keepIn K (.ref f__law_low) = true)
    (a__law_part : PySem.W.nsIn K mainGlobals "_law_part" = some (some (.ref f__law_part)))
    (l__law_part : K.lookup f__law_part = some ⟨oc__law_part, od__law_part, .func (PySem.W.fnOf "_law_part" "_law_part" (defArgs s__law_part) (defBody s__law_part) (defScope s__law_part) .none kV__law_part dc__law_part pm__law_part an__law_part cd__law_part ct__law_part), sl__law_part⟩)
    (c__law_part : PySem.W.codeIn K cd__law_part "_law_part" = true)
    (k__law_part : PySem.W.keepIn K (.ref f__law_part) = true)
    (a__law_refused : PySem.W.nsIn K mainGlobals "_law_refused" = some (some (.ref f__law_refused)))
    (l__law_refused : K.lookup f__law_refused = some ⟨oc__law_refused, od__law_refused, .func (PySem.W.fnOf "_law_refused" "_law_refused" (defArgs s__law_refused) (defBody s__law_refused) (defScope s__law_refused) .none kV__law_refused dc__law_refused pm__law_refused an__law_refused cd__law_refused ct__law_refused), sl__law_refused⟩)
    (c__law_refused : PySem.W.codeIn K cd__law_refused "_law_refused" = true)
    (k__law_refused : PySem.W.keepIn K (.ref f__law_refused) = true)
    (a_law : PySem.W.nsIn K mainGlobals "law" = some (some (.ref f_law)))
    (l_law : K.lookup f_law = some ⟨oc_law, od_law, .func (PySem.W.fnOf "law" "law" (defArgs s_law) (defBody s_law) (defScope s_law) .none kV_law dc_law pm_law an_law cd_law ct_law), sl_law⟩)
    (c_law : PySem.W.codeIn K cd_law "law" = true)
    (k_law : PySem.W.keepIn K (.ref f_law) = true)
    (z_ValueError : PySem.W.nsIn K mainGlobals "ValueError" = some none)
    (z_abs : PySem.W.nsIn K mainGlobals "abs" = some none)
    (z_bool : PySem.W.nsIn K mainGlobals "bool" = some none)
    (z_int : PySem.W.nsIn K mainGlobals "int" = some none)
    (z_isinstance : PySem.W.nsIn K mainGlobals "isinstance" = some none)
    (z_len : PySem.W.nsIn K mainGlobals "len" = some none)
    (z_range : PySem.W.nsIn K mainGlobals "range" = some none)
    (z_tuple : PySem.W.nsIn K mainGlobals "tuple" = some none)
    (z_gcd : PySem.W.nsIn K mainGlobals "gcd" = some (some (.builtin "math.gcd")))
    : ∃ fd : FuncData, (∀ (s : Shared) (v : Value), BindsTo s fd ⟨[v], []⟩ [("_law_script", v)]) ∧ ∀ base : Heap, K.In base → base.Ns mainGlobals mg → FnOk l.prog w K mg base CX0 3 fa fd ["_law_script"] (sp_law K) := by
  have e := hfa.symm.trans (PySem.W.mg_of X G a_law)
  cases e
  have F_lowest := fun_mk (st := s_lowest) l_lowest c_lowest k_lowest
  have F__law_flow := fun_mk (st := s__law_flow) l__law_flow c__law_flow k__law_flow
  have F__law_whole := fun_mk (st := s__law_whole) l__law_whole c__law_whole k__law_whole
  have F__law_low := fun_mk (st := s__law_low) l__law_low c__law_low k__law_low
  have F__law_part := fun_mk (st := s__law_part) l__law_part c__law_part k__law_part
  have F__law_refused := fun_mk (st := s__law_refused) l__law_refused c__law_refused k__law_refused
  have F_law := fun_mk (st := s_law) l_law c_law k_law
  let T : Env K mg := { C_MeadError := C_MeadError, c_MeadError := PySem.W.mg_of X G q1_MeadError, x_MeadError := q2_MeadError, k_MeadError := q3_MeadError, bs_MeadError := q4_MeadError, ty_MeadError := q5_MeadError, e_MeadError := ⟨e1_MeadError, e2_MeadError, q4_MeadError, e3_MeadError, e4_MeadError, e5_MeadError, e6_MeadError, e7_MeadError⟩, C_NoFraction := C_NoFraction, c_NoFraction := PySem.W.mg_of X G q1_NoFraction, x_NoFraction := q2_NoFraction, k_NoFraction := q3_NoFraction, bs_NoFraction := q4_NoFraction, ty_NoFraction := q5_NoFraction, e_NoFraction := ⟨e1_NoFraction, e2_NoFraction, q4_NoFraction, e3_NoFraction, e4_NoFraction, e5_NoFraction, e6_NoFraction, e7_NoFraction⟩, sub_NoFraction_MeadError := s_NoFraction_MeadError, kit_NoFraction_NoFraction := t_NoFraction_NoFraction, kit_NoFraction_ValueError := t_NoFraction_ValueError, a_lowest := _, fd_lowest := _, F_lowest := F_lowest, g_lowest := PySem.W.mg_of X G a_lowest, b_lowest := F_lowest.binds (ps := ["top", "bottom"]) fun _ _ _ _ _ _ us hl => match us, hl with | [_, _], _ => rfl, a__law_flow := _, fd__law_flow := _, F__law_flow := F__law_flow, g__law_flow := PySem.W.mg_of X G a__law_flow, b__law_flow := F__law_flow.binds (ps := ["_law_script", "_law_many"]) fun _ _ _ _ _ _ us hl => match us, hl with | [_, _], _ => rfl, a__law_whole := _, fd__law_whole := _, F__law_whole := F__law_whole, g__law_whole := PySem.W.mg_of X G a__law_whole, b__law_whole := F__law_whole.binds (ps := ["_law_found"]) fun _ _ _ _ _ _ us hl => match us, hl with | [_], _ => rfl, a__law_low := _, fd__law_low := _, F__law_low := F__law_low, g__law_low := PySem.W.mg_of X G a__law_low, b__law_low := F__law_low.binds (ps := ["_law_top", "_law_bottom"]) fun _ _ _ _ _ _ us hl => match us, hl with | [_, _], _ => rfl, a__law_part := _, fd__law_part := _, F__law_part := F__law_part, g__law_part := PySem.W.mg_of X G a__law_part, b__law_part := F__law_part.binds (ps := ["_law_found"]) fun _ _ _ _ _ _ us hl => match us, hl with | [_], _ => rfl, a__law_refused := _, fd__law_refused := _, F__law_refused := F__law_refused, g__law_refused := PySem.W.mg_of X G a__law_refused, b__law_refused := F__law_refused.binds (ps := ["_law_top", "_law_bottom"]) fun _ _ _ _ _ _ us hl => match us, hl with | [_, _], _ => rfl, a_law := _, fd_law := _, F_law := F_law, g_law := PySem.W.mg_of X G a_law, b_law := F_law.binds (ps := ["_law_script"]) fun _ _ _ _ _ _ us hl => match us, hl with | [_], _ => rfl, m_ValueError := PySem.W.mg_none_of X G z_ValueError, m_abs := PySem.W.mg_none_of X G z_abs, m_bool := PySem.W.mg_none_of X G z_bool, m_int := PySem.W.mg_none_of X G z_int, m_isinstance := PySem.W.mg_none_of X G z_isinstance, m_len := PySem.W.mg_none_of X G z_len, m_range := PySem.W.mg_none_of X G z_range, m_tuple := PySem.W.mg_none_of X G z_tuple, m_gcd := PySem.W.mg_of X G z_gcd }
  exact ⟨PySem.W.fnOf "law" "law" (defArgs s_law) (defBody s_law) (defScope s_law) .none kV_law dc_law pm_law an_law cd_law ct_law, fun s v => .of_eq rfl, fun base _ _ => ok_law T⟩
end
end My
open PySem PySem.W PyProof.Rows
set_option maxRecDepth 100000 in
set_option maxHeartbeats 0 in
theorem PySem.Challenge.cw_postmead_k01_lowest_terms_holds : PySem.Challenge.rw_postmead_k01_lowest_terms.Holds := by
  w_on; o_law; k_head; (case hw => w_witness2)
  k_fill
  refine L2.walk_of (l := PySem.Challenge.rw_postmead_k01_lowest_terms) (n := 63) (k := 3) (x := "_law_script") (CX := fun _ => L2.CX0) (sp := fun w => My.sp_law _) rfl (by decide) rfl ⟨rfl, by decide, by decide⟩ (fun w h Y => PySem.W.kIn_of Y) ?F (fun _ _ a ns hl _ hS => ⟨a, ns, rfl, hS, hl, fun _ => rfl⟩) (fun _ _ _ _ _ h => h)
  case F =>
    intro w mg fa h KX G hmg
    refine' My.all_mk KX G hmg ?q1_MeadError ?q2_MeadError ?q3_MeadError ?q4_MeadError ?q5_MeadError ?e1_MeadError ?e2_MeadError ?e3_MeadError ?e4_MeadError ?e5_MeadError ?e6_MeadError ?e7_MeadError ?q1_NoFraction ?q2_NoFraction ?q3_NoFraction ?q4_NoFraction ?q5_NoFraction ?e1_NoFraction ?e2_NoFraction ?e3_NoFraction ?e4_NoFraction ?e5_NoFraction ?e6_NoFraction ?e7_NoFraction ?s_NoFraction_MeadError ?t_NoFraction_NoFraction ?t_NoFraction_ValueError ?a_lowest ?l_lowest ?c_lowest ?k_lowest ?a__law_flow ?l__law_flow ?c__law_flow ?k__law_flow ?a__law_whole ?l__law_whole ?c__law_whole ?k__law_whole ?a__law_low ?l__law_low ?c__law_low ?k__law_low ?a__law_part ?l__law_part ?c__law_part ?k__law_part ?a__law_refused ?l__law_refused ?c__law_refused ?k__law_refused ?a_law ?l_law ?c_law ?k_law ?z_ValueError ?z_abs ?z_bool ?z_int ?z_isinstance ?z_len ?z_range ?z_tuple ?z_gcd
    (case q1_MeadError => k_is)
    (case q2_MeadError => k_exc)
    (case q3_MeadError => k_is)
    (case q4_MeadError => k_is)
    (case q5_MeadError => k_is)
    (case e1_MeadError => k_is)
    (case e2_MeadError => k_is)
    (case e3_MeadError => k_is)
    (case e4_MeadError => k_is)
    (case e5_MeadError => k_is)
    (case e6_MeadError => k_is)
    (case e7_MeadError => k_is)
    (case q1_NoFraction => k_is)
    (case q2_NoFraction => k_exc)
    (case q3_NoFraction => k_is)
    (case q4_NoFraction => k_is)
    (case q5_NoFraction => k_is)
    (case e1_NoFraction => k_is)
    (case e2_NoFraction => k_is)
    (case e3_NoFraction => k_is)
    (case e4_NoFraction => k_is)
    (case e5_NoFraction => k_is)
    (case e6_NoFraction => k_is)
    (case e7_NoFraction => k_is)
    (case s_NoFraction_MeadError => first | rfl | k_is)
    (case t_NoFraction_NoFraction => first | k_is | rfl)
    (case t_NoFraction_ValueError => first | k_is | rfl)
    (case a_lowest => k_is)
    (case l_lowest => k_is)
    (case c_lowest => k_is)
    (case k_lowest => k_is)
    (case a__law_flow => k_is)
    (case l__law_flow => k_is)
    (case c__law_flow => k_is)
    (case k__law_flow => k_is)
    (case a__law_whole => k_is)
    (case l__law_whole => k_is)
    (case c__law_whole => k_is)
    (case k__law_whole => k_is)
    (case a__law_low => k_is)
    (case l__law_low => k_is)
    (case c__law_low => k_is)
    (case k__law_low => k_is)
    (case a__law_part => k_is)
    (case l__law_part => k_is)
    (case c__law_part => k_is)
    (case k__law_part => k_is)
    (case a__law_refused => k_is)
    (case l__law_refused => k_is)
    (case c__law_refused => k_is)
    (case k__law_refused => k_is)
    (case a_law => k_is)
    (case l_law => k_is)
    (case c_law => k_is)
    (case k_law => k_is)
    (case z_ValueError => k_is)
    (case z_abs => k_is)
    (case z_bool => k_is)
    (case z_int => k_is)
    (case z_isinstance => k_is)
    (case z_len => k_is)
    (case z_range => k_is)
    (case z_tuple => k_is)
    (case z_gcd => k_is)
#print axioms PySem.Challenge.cw_postmead_k01_lowest_terms_holds
