import PyProof.Rows.All
import Wide.All
import OpenK.AllK
import Wide.FinOn
import HandS.ForMost
import HandS.ForExc
import HandS.Wide
import HandS.Gcd
import HandS.IsInst
import HandS.ExcIs
import HandS.Codes
import HandS.SortRule
import HandS.Deep
import KE.DataMinMax
import PySem.Challenge.RW_postmead_k08_pairs_cross
set_option Elab.async false
set_option linter.all false
set_option maxRecDepth 100000
set_option maxHeartbeats 4000000
namespace My
open PySem PySem.Spec PyProof.Rows L2
/-! ### readings: small steps -/
local macro_rules | `(tactic| walk_at "rd") => `(tactic| repeat (first
  | refine ⟨_, rfl, ?_⟩
  | refine ⟨_, _, rfl, rfl, ?_⟩
  | refine ⟨.inr ⟨by decide, by decide⟩, ?_⟩
  | refine ⟨by decide, ?_⟩))
theorem op_fdivX {X : Cx} : OpR X (binaryOp .FloorDiv) (rI (fun _ j => j ≠ 0 ∧ j.natAbs.log2 < 9000) fun i j => .int (i.fdiv j)) :=
  opI fun _ _ _ _ _ _ _ hc q => floordiv_int hc.1 q (.inl (PyProof.noPylong_of_log2 hc.2))
theorem op_mulU {X : Cx} : OpR X (binaryOp .Mult) (rI IntMulOk fun i j => .int (i * j)) := opI fun _ _ _ _ _ _ _ hc q => mul_int q hc
theorem mulL {i j : Int} (h0 : -(2 ^ 64) < i) (h1 : i < 2 ^ 64) : IntMulOk i j := CMul.ok (.inl ⟨h0, h1⟩)
theorem mulR {i j : Int} (h0 : -(2 ^ 64) < j) (h1 : j < 2 ^ 64) : IntMulOk i j := CMul.ok (.inr ⟨h0, h1⟩)
theorem nd {p : Prop} [Decidable p] (h : ¬ decide p = true) : ¬ p := fun hp => h (decide_eq_true hp)
theorem zc_of {cls : Value} {d : Option Addr} {C : Addr} {oe : Obj} (h : Zc cls d oe) (e : cls = .ref C ∧ d = none) : Zc (.ref C) none oe := by
  obtain ⟨e1, e2⟩ := e
  rw [← e1, ← e2]
  exact h
theorem same_new {H : Hp} {p : Addr} {o : HO} (h : H p = none) : Same H (upd H p o) := fun b x e => by
  rw [upd_ne (ne_of_none e h)]
  exact e
theorem same_put {H H' : Hp} {p : Addr} {o : HO} (s : Same H H') (h : H p = none) : Same H (upd H' p o) := fun b x e => by
  rw [upd_ne (ne_of_none e h)]
  exact s _ _ e
theorem log_small {n b : Nat} (h0 : 0 < b) (h : n < 2 ^ b) (h9 : b ≤ 9000) : n.log2 < 9000 := Nat.lt_of_lt_of_le (PySem.Flt.log2_lt_of h0 h) h9
theorem pss_guard {X : Cx} {b : List Stmt} {t : TS} {P : Prop} (h : P → PSs X b t) : PSs X b (fun D σ H => P ∧ t D σ H) :=
  ⟨fun pins s σ H D I q => (h q.1).run pins s σ H D I q.2⟩
def topS (i : Nat) : Stmt := PySem.Challenge.pw_postmead_k08_pairs_cross.main.body.getD i (.Pass ⟨0, 0, 0, 0⟩)
abbrev s_crosses : Stmt := topS 1
theorem sc_crosses : FnScope ["one", "other", "first", "second", "low", "high"] ["one", "other"] (defScope s_crosses) := ⟨rfl, rfl, rfl, by decide +kernel, rfl, by decide +kernel, by decide +kernel⟩
abbrev s__law_flow : Stmt := topS 3
theorem sc__law_flow : FnScope ["_law_script", "_law_many", "_law_great", "_law_row", "_law_k", "_law_cell", "_law_mixed"] ["_law_script", "_law_many"] (defScope s__law_flow) := ⟨rfl, rfl, rfl, by decide +kernel, rfl, by decide +kernel, by decide +kernel⟩
abbrev s__law_cross : Stmt := topS 4
theorem sc__law_cross : FnScope ["_law_one", "_law_other", "_law_post", "_law_low", "_law_high"] ["_law_one", "_law_other"] (defScope s__law_cross) := ⟨rfl, rfl, rfl, by decide +kernel, rfl, by decide +kernel, by decide +kernel⟩
abbrev s__law_says : Stmt := topS 5
theorem sc__law_says : FnScope ["_law_one", "_law_other", "_law_found"] ["_law_one", "_law_other"] (defScope s__law_says) := ⟨rfl, rfl, rfl, by decide +kernel, rfl, by decide +kernel, by decide +kernel⟩
abbrev s_law : Stmt := topS 6
theorem sc_law : FnScope ["_law_script", "_law_row", "_law_size", "_law_a", "_law_b", "_law_c", "_law_d"] ["_law_script"] (defScope s_law) := ⟨rfl, rfl, rfl, by decide +kernel, rfl, by decide +kernel, by decide +kernel⟩
structure Env (K : PySem.W.Frag) (mg : Str → Option Value) where
  a_crosses : Addr
  fd_crosses : FuncData
  F_crosses : Fun K "crosses" "crosses" s_crosses a_crosses fd_crosses
  g_crosses : mg "crosses" = some (.ref a_crosses)
  b_crosses : Binds K fd_crosses ["one", "other"] []
  a__law_flow : Addr
  fd__law_flow : FuncData
  F__law_flow : Fun K "_law_flow" "_law_flow" s__law_flow a__law_flow fd__law_flow
  g__law_flow : mg "_law_flow" = some (.ref a__law_flow)
  b__law_flow : Binds K fd__law_flow ["_law_script", "_law_many"] []
  a__law_cross : Addr
  fd__law_cross : FuncData
  F__law_cross : Fun K "_law_cross" "_law_cross" s__law_cross a__law_cross fd__law_cross
  g__law_cross : mg "_law_cross" = some (.ref a__law_cross)
  b__law_cross : Binds K fd__law_cross ["_law_one", "_law_other"] []
  a__law_says : Addr
  fd__law_says : FuncData
  F__law_says : Fun K "_law_says" "_law_says" s__law_says a__law_says fd__law_says
  g__law_says : mg "_law_says" = some (.ref a__law_says)
  b__law_says : Binds K fd__law_says ["_law_one", "_law_other"] []
  a_law : Addr
  fd_law : FuncData
  F_law : Fun K "law" "law" s_law a_law fd_law
  g_law : mg "law" = some (.ref a_law)
  b_law : Binds K fd_law ["_law_script"] []
  m_abs : mg "abs" = none
  m_bool : mg "bool" = none
  m_isinstance : mg "isinstance" = none
  m_len : mg "len" = none
  m_max : mg "max" = none
  m_min : mg "min" = none
  m_range : mg "range" = none
section
variable {P : Program} {w : World} {K : PySem.W.Frag} {mg : Str → Option Value} {base : Heap}

/-! ### lists of pairs of whole numbers -/
inductive All2 {α β : Type} (R : α → β → Prop) : List α → List β → Prop
  | nil : All2 R [] []
  | cons {x : α} {y : β} {xs : List α} {ys : List β} : R x y → All2 R xs ys → All2 R (x :: xs) (y :: ys)
theorem All2.length {α β : Type} {R : α → β → Prop} {xs : List α} {ys : List β} (h : All2 R xs ys) : xs.length = ys.length := by
  induction h with
  | nil => rfl
  | cons _ _ ih => rw [List.length_cons, List.length_cons, ih]
theorem All2.mono {α β : Type} {R R' : α → β → Prop} {xs : List α} {ys : List β} (h : All2 R xs ys) (f : ∀ x y, R x y → R' x y) : All2 R' xs ys := by
  induction h with
  | nil => exact .nil
  | cons a _ ih => exact .cons (f _ _ a) ih
theorem All2.app {α β : Type} {R : α → β → Prop} {xs xs' : List α} {ys ys' : List β} (h : All2 R xs ys) (h' : All2 R xs' ys') : All2 R (xs ++ xs') (ys ++ ys') := by
  induction h with
  | nil => exact h'
  | cons a _ ih => exact .cons a ih
theorem All2.at {α β : Type} {R : α → β → Prop} {xs : List α} {ys : List β} (h : All2 R xs ys) : ∀ {i : Nat} {x : α}, xs[i]? = some x → ∃ y, ys[i]? = some y ∧ R x y := by
  induction h with
  | nil => intro i x e; cases e
  | cons a _ ih =>
    intro i x e
    cases i with
    | zero => obtain rfl := Option.some.inj e; exact ⟨_, rfl, a⟩
    | succ i => exact ih e
theorem All2.at' {α β : Type} {R : α → β → Prop} {xs : List α} {ys : List β} (h : All2 R xs ys) : ∀ {i : Nat} {y : β}, ys[i]? = some y → ∃ x, xs[i]? = some x ∧ R x y := by
  induction h with
  | nil => intro i x e; cases e
  | cons a _ ih =>
    intro i x e
    cases i with
    | zero => obtain rfl := Option.some.inj e; exact ⟨_, rfl, a⟩
    | succ i => exact ih e
theorem All2.take {α β : Type} {R : α → β → Prop} {xs : List α} {ys : List β} (h : All2 R xs ys) : ∀ i, All2 R (xs.take i) (ys.take i) := by
  induction h with
  | nil => intro i; rw [List.take_nil, List.take_nil]; exact .nil
  | cons a _ ih =>
    intro i
    cases i with
    | zero => exact .nil
    | succ i => exact .cons a (ih i)
theorem All2.drop {α β : Type} {R : α → β → Prop} {xs : List α} {ys : List β} (h : All2 R xs ys) : ∀ i, All2 R (xs.drop i) (ys.drop i) := by
  induction h with
  | nil => intro i; rw [List.drop_nil, List.drop_nil]; exact .nil
  | cons a t ih =>
    intro i
    cases i with
    | zero => exact .cons a t
    | succ i => exact ih i
theorem All2.one {α β : Type} {R : α → β → Prop} {x : α} {y : β} (h : R x y) : All2 R [x] [y] := .cons h .nil
def PrAt (K : PySem.W.Frag) (H : Hp) (x : V) (p : Int × Int) : Prop := ∃ t, x = V.ref t ∧ H t = some (.tup [.int p.1, .int p.2])
abbrev PrL (K : PySem.W.Frag) (H : Hp) (xs : List V) (l : List (Int × Int)) : Prop := All2 (PrAt K H) xs l
theorem PrAt.mono {H H' : Hp} {x : V} {p : Int × Int} (s : Same H H') (h : PrAt K H x p) : PrAt K H' x p := by
  obtain ⟨t, e, ht⟩ := h
  exact ⟨t, e, s _ _ ht⟩
theorem PrL.mono {H H' : Hp} {xs : List V} {l : List (Int × Int)} (s : Same H H') (h : PrL K H xs l) : PrL K H' xs l := All2.mono h fun _ _ q => q.mono s
/-- all tuples of H stand in H' -/
def TupS (H H' : Hp) : Prop := ∀ t xs, H t = some (.tup xs) → H' t = some (.tup xs)
theorem TupS.of {H H' : Hp} (s : Same H H') : TupS H H' := fun t xs e => s _ _ e
theorem TupS.trans {H H' H2 : Hp} (s : TupS H H') (s' : TupS H' H2) : TupS H H2 := fun t xs e => s' _ _ (s _ _ e)
theorem TupS.put {H : Hp} {p : Addr} {xs : List V} {o : HO} (h : H p = some (.lst xs)) : TupS H (upd H p o) := fun t ys e => by
  rw [upd_ne (ne_of e h (fun z => nomatch z))]
  exact e
theorem PrL.tups {H H' : Hp} {xs : List V} {l : List (Int × Int)} (s : TupS H H') (h : PrL K H xs l) : PrL K H' xs l := All2.mono h fun _ _ ⟨t, e, ht⟩ => ⟨t, e, s _ _ ht⟩
theorem PrAt.sq {H : Hp} {x : V} {p : Int × Int} (h : PrAt K H x p) : ∃ t, x = V.ref t ∧ SqT K H t [.int p.1, .int p.2] := by
  obtain ⟨t, e, ht⟩ := h
  exact ⟨t, e, .inl (.inl ht)⟩
/-! pairs in order -/
def le2 (p q : Int × Int) : Prop := p.1 < q.1 ∨ (p.1 = q.1 ∧ p.2 ≤ q.2)
instance (p q : Int × Int) : Decidable (le2 p q) := by unfold le2; exact inferInstance
theorem le2_anti {p q : Int × Int} (h : le2 p q) (h' : le2 q p) : p = q := by
  unfold le2 at h h'
  exact Prod.ext (by omega) (by omega)
theorem le2_total (p q : Int × Int) : le2 p q ∨ le2 q p := by unfold le2; omega
theorem le2_trans {p q r : Int × Int} (h : le2 p q) (h' : le2 q r) : le2 p r := by unfold le2 at *; omega
def sort2 (l : List (Int × Int)) : List (Int × Int) := l.mergeSort fun p q => decide (le2 p q)
theorem sort2_perm (l : List (Int × Int)) : (sort2 l).Perm l := List.mergeSort_perm _ _
theorem sort2_sorted (l : List (Int × Int)) : (sort2 l).Pairwise le2 := by
  have := List.pairwise_mergeSort (le := fun p q => decide (le2 p q)) (fun a b c h1 h2 => decide_eq_true (le2_trans (of_decide_eq_true h1) (of_decide_eq_true h2)))
    (fun a b => by rcases le2_total a b with h | h <;> simp [h]) l
  exact this.imp fun h => of_decide_eq_true h
theorem sort2_uniq {l m : List (Int × Int)} (h1 : m.Perm l) (h2 : m.Pairwise le2) : m = sort2 l :=
  List.Perm.eq_of_pairwise (le := le2) (fun _ _ _ _ => le2_anti) h2 (sort2_sorted l) (h1.trans (sort2_perm l).symm)
theorem sort2_self {l : List (Int × Int)} (h : l.Pairwise le2) : sort2 l = l := (sort2_uniq (List.Perm.refl _) h).symm
theorem sort2_mem {l : List (Int × Int)} {p : Int × Int} : p ∈ sort2 l ↔ p ∈ l := (sort2_perm l).mem_iff
theorem sort2_len (l : List (Int × Int)) : (sort2 l).length = l.length := (sort2_perm l).length_eq
theorem sort2_eq {l m : List (Int × Int)} (h : l.Perm m) : sort2 l = sort2 m := sort2_uniq ((sort2_perm l).trans h) (sort2_sorted l)
theorem sort2_nodup {l : List (Int × Int)} (h : l.Nodup) : (sort2 l).Nodup := (sort2_perm l).nodup_iff.mpr h
/-! sorted -/
def kOf (H : Hp) : V → Int × Int
  | .ref t => match H t with
    | some (.tup [.int i, .int j]) => (i, j)
    | _ => (0, 0)
  | _ => (0, 0)
theorem PrAt.k {H : Hp} {x : V} {p : Int × Int} (h : PrAt K H x p) : kOf H x = p := by
  obtain ⟨t, rfl, ht⟩ := h
  show (match H t with | some (.tup [.int i, .int j]) => (i, j) | _ => (0, 0)) = p
  rw [ht]
theorem PrL.k {H : Hp} {xs : List V} {l : List (Int × Int)} (h : PrL K H xs l) : xs.map (kOf H) = l := by
  induction h with
  | nil => rfl
  | cons a _ ih => rw [List.map_cons, a.k, ih]
theorem PrL.mem {H : Hp} {xs : List V} {l : List (Int × Int)} (h : PrL K H xs l) : ∀ x ∈ xs, PrAt K H x (kOf H x) := by
  induction h with
  | nil => intro x hx; cases hx
  | cons a _ ih =>
    intro x hx
    rcases List.mem_cons.mp hx with e | hx
    · subst e; rw [a.k]; exact a
    · exact ih x hx
theorem PrL.of_k {H : Hp} : ∀ {ys : List V}, (∀ x ∈ ys, PrAt K H x (kOf H x)) → PrL K H ys (ys.map (kOf H))
  | [], _ => .nil
  | y :: ys, h => .cons (h y (List.mem_cons_self ..)) (PrL.of_k fun x hx => h x (List.mem_cons_of_mem _ hx))
def rSort2 (K : PySem.W.Frag) : List V → Hp → VK → Prop := fun vs H Q => ∃ (a : Addr) (xs : List V) (l : List (Int × Int)), vs = [V.ref a] ∧ SqL K H a xs ∧ PrL K H xs l ∧
  ∀ ys p, PrL K H ys (sort2 l) → H p = none → Q (.ref p) (upd H p (.lst ys))
theorem cr_sort2 {X : Cx} : CallR X (.builtin "sorted") (rSort2 X.K) := by
  intro pins s σ H vs us Q I r h
  obtain ⟨a, xs, l, rfl, hs, hP, q⟩ := h
  refine cr_sortedPO pins s σ H _ us Q I r ⟨a, xs, kOf H, rfl, hs, fun x hx => hP.mem x hx, fun ys p h1 h2 hp => q ys p ?_ hp⟩
  have hm := PrL.of_k (K := X.K) (H := H) (ys := ys) fun x hx => hP.mem x (h2.perm.mem_iff.mp hx)
  have e : ys.map (kOf H) = sort2 l := by
    refine sort2_uniq ?_ ?_
    · rw [← hP.k]; exact h2.perm.map _
    · rw [List.pairwise_map]
      refine List.Pairwise.imp (fun {x y} h => ?_) h1
      have := SrtO.lexB_no.mp h
      unfold le2
      omega
  rw [e] at hm
  exact hm
/-! in, ==, != -/
def dat2 (p : Int × Int) : PyData := .tuple [.int p.1, .int p.2]
theorem dat2_eqv (p q : Int × Int) : PyData.eqv (dat2 p) (dat2 q) = decide (p = q) := by
  obtain ⟨a, b⟩ := p
  obtain ⟨c, d⟩ := q
  show PyData.eqvAll [.int a, .int b] [.int c, .int d] = _
  simp only [PyData.eqvAll, PyData.eqv, Bool.and_true]
  by_cases h1 : a = c <;> by_cases h2 : b = d <;> simp [h1, h2]
theorem dat2s_eqv : ∀ l m : List (Int × Int), PyData.eqvAll (l.map dat2) (m.map dat2) = decide (l = m)
  | [], [] => by simp [PyData.eqvAll]
  | [], _ :: _ => by simp [PyData.eqvAll]
  | _ :: _, [] => by simp [PyData.eqvAll]
  | p :: l, q :: m => by
    rw [List.map_cons, List.map_cons, PySem.W.eqv_all_cons, dat2_eqv, dat2s_eqv l m]
    by_cases e : p = q
    · subst e; simp
    · simp [e]
theorem PrAt.dp {H : Hp} {x : V} {p : Int × Int} (h : PrAt K H x p) : Dp K H x (dat2 p) := by
  obtain ⟨t, rfl, ht⟩ := h
  exact .tup (.inl (.inl ht)) (.cons (.int _) (.cons (.int _) .nil))
theorem PrL.dp {H : Hp} {xs : List V} {l : List (Int × Int)} (h : PrL K H xs l) : DpAll K H xs (l.map dat2) := by
  induction h with
  | nil => exact .nil
  | cons a _ ih => exact .cons a.dp ih
theorem dat2_sh (p : Int × Int) : SeqAt.shaped (dat2 p) = true := rfl
theorem dat2_sh2 (l : List (Int × Int)) (h : l.length ≤ 200) : SeqAt.shaped (.list (l.map dat2)) = true := by
  have key : ∀ l : List (Int × Int), PyData.canLayAll0 (l.map dat2) = true ∧ PyData.depthAll (l.map dat2) ≤ 1 := by
    intro l
    induction l with
    | nil => exact ⟨rfl, by decide⟩
    | cons p l ih =>
      refine ⟨?_, ?_⟩
      · show (PyData.canLay0 (dat2 p) && PyData.canLayAll0 (l.map dat2)) = true
        rw [ih.1]; rfl
      · show max (PyData.depth (dat2 p)) (PyData.depthAll (l.map dat2)) ≤ 1
        have : PyData.depth (dat2 p) = 1 := rfl
        have := ih.2
        omega
  unfold SeqAt.shaped
  have h1 : PyData.canLay0 (.list (l.map dat2)) = true := by
    exact (key l).1
  have h2 : PyData.depth (.list (l.map dat2)) ≤ 64 := by
    have := (key l).2
    simp only [PyData.depth]
    omega
  rw [h1, decide_eq_true h2]
  rfl
theorem any_eqv (l : List (Int × Int)) (p : Int × Int) : ((l.map dat2).any fun z => PyData.eqv z (dat2 p)) = decide (p ∈ l) := by
  induction l with
  | nil => simp
  | cons q l ih =>
    rw [List.map_cons, List.any_cons, ih, dat2_eqv]
    by_cases e : q = p
    · subst e; simp
    · simp [e, Ne.symm e]
def rIn2 (K : PySem.W.Frag) (neg : Bool) : R2 := fun x y H Q => ∃ (p : Int × Int) (a : Addr) (xs : List V) (l : List (Int × Int)), PrAt K H x p ∧ y = .ref a ∧ SqL K H a xs ∧ PrL K H xs l ∧ l.length ≤ 200 ∧ Q (.bl (if neg then !decide (p ∈ l) else decide (p ∈ l))) H
section
variable {X : Cx}
theorem op_in2 (hu : X.A.units + 65 < cLine) : OpR X (compareOp .In) (rIn2 X.K false) := by
  intro pins s σ H x y v u Q I rx ry h
  obtain ⟨p, a, xs, l, hp, rfl, hs, hP, hl, q⟩ := h
  refine op_inD hu pins s σ H _ _ v u Q I rx ry ⟨_, _, hp.dp, .lst hs hP.dp, dat2_sh p, dat2_sh2 l hl, ?_⟩
  rw [any_eqv]
  exact q
theorem op_notIn2 (hu : X.A.units + 65 < cLine) : OpR X (compareOp .NotIn) (rIn2 X.K true) := by
  intro pins s σ H x y v u Q I rx ry h
  obtain ⟨p, a, xs, l, hp, rfl, hs, hP, hl, q⟩ := h
  refine op_notInD hu pins s σ H _ _ v u Q I rx ry ⟨_, _, hp.dp, .lst hs hP.dp, dat2_sh p, dat2_sh2 l hl, ?_⟩
  rw [any_eqv]
  exact q
def rEqL2 (K : PySem.W.Frag) (neg : Bool) : R2 := fun x y H Q => ∃ (a b : Addr) (xs ys : List V) (l m : List (Int × Int)), x = .ref a ∧ y = .ref b ∧ SqL K H a xs ∧ PrL K H xs l ∧ SqL K H b ys ∧ PrL K H ys m ∧ l.length ≤ 200 ∧ m.length ≤ 200 ∧ Q (.bl (if neg then !decide (l = m) else decide (l = m))) H
theorem op_eqL2 (hu : X.A.units + 64 < cLine) : OpR X (compareOp .Eq) (rEqL2 X.K false) := by
  intro pins s σ H x y v u Q I rx ry h
  obtain ⟨a, b, xs, ys, l, m, rfl, rfl, hs, hP, hs', hP', hl, hm, q⟩ := h
  refine op_eqD hu pins s σ H _ _ v u Q I rx ry ⟨_, _, .lst hs hP.dp, .lst hs' hP'.dp, dat2_sh2 l hl, dat2_sh2 m hm, ?_⟩
  show Q (.bl (PyData.eqvAll _ _)) H
  rw [dat2s_eqv]
  exact q
theorem op_neL2 (hu : X.A.units + 64 < cLine) : OpR X (compareOp .NotEq) (rEqL2 X.K true) := by
  intro pins s σ H x y v u Q I rx ry h
  obtain ⟨a, b, xs, ys, l, m, rfl, rfl, hs, hP, hs', hP', hl, hm, q⟩ := h
  refine op_neD hu pins s σ H _ _ v u Q I rx ry ⟨_, _, .lst hs hP.dp, .lst hs' hP'.dp, dat2_sh2 l hl, dat2_sh2 m hm, ?_⟩
  show Q (.bl (!PyData.eqvAll _ _)) H
  rw [dat2s_eqv]
  exact q
def rEqP2 (K : PySem.W.Frag) (neg : Bool) : R2 := fun x y H Q => ∃ (p q : Int × Int), PrAt K H x p ∧ PrAt K H y q ∧ Q (.bl (if neg then !decide (p = q) else decide (p = q))) H
theorem op_eqP2 (hu : X.A.units + 64 < cLine) : OpR X (compareOp .Eq) (rEqP2 X.K false) := by
  intro pins s σ H x y v u Q I rx ry h
  obtain ⟨p, q, hp, hq, k⟩ := h
  refine op_eqD hu pins s σ H _ _ v u Q I rx ry ⟨_, _, hp.dp, hq.dp, dat2_sh p, dat2_sh q, ?_⟩
  rw [dat2_eqv]
  exact k
theorem op_neP2 (hu : X.A.units + 64 < cLine) : OpR X (compareOp .NotEq) (rEqP2 X.K true) := by
  intro pins s σ H x y v u Q I rx ry h
  obtain ⟨p, q, hp, hq, k⟩ := h
  refine op_neD hu pins s σ H _ _ v u Q I rx ry ⟨_, _, hp.dp, hq.dp, dat2_sh p, dat2_sh q, ?_⟩
  rw [dat2_eqv]
  exact k
end
theorem Room.units2 {k : Nat} {A : Around} (r : Room k A) : A.units + 65 < cLine := by have := r.un; omega

/-! ### min, max of a tuple of two whole numbers -/
section
variable {X : Cx}
def rMin2T (K : PySem.W.Frag) (f : Int → Int → Int) : List V → Hp → VK → Prop := fun vs H Q => ∃ (a : Addr) (i j : Int), vs = [V.ref a] ∧ SqT K H a [.int i, .int j] ∧ Q (.int (f i j)) H
theorem tup_of {h : Heap} {a : Addr} {its : Array Value} (t : IsTup h a its) : h.IsTuple a its := t
theorem reads_int {h : Heap} {v : Value} {n : Int} {bs : List Addr} (r : Reads h v (.int n) bs) : ∃ t, v = .int n t := by
  cases r with
  | int => exact ⟨_, rfl⟩
theorem alike2 (i j : Int) : PySem.W.AlikeAll [.int i, .int j] := by
  refine ⟨fun x hx y hy => ?_, fun x hx => ?_⟩
  · simp only [List.mem_cons, List.not_mem_nil, or_false] at hx hy
    rcases hx with rfl | rfl <;> rcases hy with rfl | rfl <;> rfl
  · simp only [List.mem_cons, List.not_mem_nil, or_false] at hx
    rcases hx with rfl | rfl <;> exact fun z => nomatch z
theorem cr_min2T (hc : X.calm = true) (hu : X.A.units + 64 < cLine) : CallR X (.builtin "min") (rMin2T X.K min) := by
  intro pins s σ H vs us Q I r h
  obtain ⟨a, i, j, rfl, hs, q⟩ := h
  obtain ⟨its, rv, hl, _⟩ := I.tuple hs
  rw [Vals.ref1 r]
  obtain ⟨u1, u2, rfl, ⟨t1, e1⟩, ⟨t2, e2⟩⟩ := vals2 rv
  subst e1; subst e2
  refine PySem.W.min_tuple_data (x := .int i) (xs := [.int j]) (I.ok.hd hc) (tup_of hl) (.cons (Reads.int i t1) (.cons (Reads.int j t2) .nil)) (alike2 i j) ?_ fun k v h' tk bs hk hr hh => ?_
  · show X.A.units + 1 + 0 < cLine
    omega
  · have hm : PySem.W.minD (.int i) [.int j] = .int (min i j) := PySem.W.minD_ints i [j]
    rw [hm] at hr
    obtain ⟨t, rfl⟩ := reads_int hr
    exact ⟨.int _, H, I.kept hh, ⟨_, rfl⟩, q⟩
theorem cr_max2T (hc : X.calm = true) (hu : X.A.units + 64 < cLine) : CallR X (.builtin "max") (rMin2T X.K max) := by
  intro pins s σ H vs us Q I r h
  obtain ⟨a, i, j, rfl, hs, q⟩ := h
  obtain ⟨its, rv, hl, _⟩ := I.tuple hs
  rw [Vals.ref1 r]
  obtain ⟨u1, u2, rfl, ⟨t1, e1⟩, ⟨t2, e2⟩⟩ := vals2 rv
  subst e1; subst e2
  refine PySem.W.max_tuple_data (x := .int i) (xs := [.int j]) (I.ok.hd hc) (tup_of hl) (.cons (Reads.int i t1) (.cons (Reads.int j t2) .nil)) (alike2 i j) ?_ fun k v h' tk bs hk hr hh => ?_
  · show X.A.units + 1 + 0 < cLine
    omega
  · have hm : PySem.W.maxD (.int i) [.int j] = .int (max i j) := PySem.W.maxD_ints i [j]
    rw [hm] at hr
    obtain ⟨t, rfl⟩ := reads_int hr
    exact ⟨.int _, H, I.kept hh, ⟨_, rfl⟩, q⟩
end

/-! ### two pairs cross -/
def crossI (p q : Int × Int) : Bool := if q.1 = p.1 ∨ q.1 = p.2 ∨ q.2 = p.1 ∨ q.2 = p.2 then false else
  decide ((decide (min p.1 p.2 < q.1 ∧ q.1 < max p.1 p.2)) ≠ (decide (min p.1 p.2 < q.2 ∧ q.2 < max p.1 p.2)))
theorem dec_ne (A B : Prop) [Decidable A] [Decidable B] : (decide A ≠ decide B) ↔ ¬ (A ↔ B) := by
  by_cases h1 : A <;> by_cases h2 : B <;> simp [h1, h2]
theorem crossI_symm {p q : Int × Int} (h1 : p.1 ≠ p.2) (h2 : q.1 ≠ q.2) : crossI p q = crossI q p := by
  obtain ⟨a, b⟩ := p
  obtain ⟨c, d⟩ := q
  unfold crossI
  dsimp only at *
  by_cases e : c = a ∨ c = b ∨ d = a ∨ d = b
  · rw [if_pos e, if_pos (by omega)]
  · rw [if_neg e, if_neg (by omega), decide_eq_decide, dec_ne, dec_ne]
    omega
def sp_cross (K : PySem.W.Frag) : Sp := fun vs H Q _ => ∃ (x y : V) (p q : Int × Int), vs = [x, y] ∧ PrAt K H x p ∧ PrAt K H y q ∧ Q (.bl (crossI p q)) H
def sp_crosses (K : PySem.W.Frag) : Sp := fun vs H Q _ => ∃ (x y : V) (p q : Int × Int), vs = [x, y] ∧ PrAt K H x p ∧ PrAt K H y q ∧ Q (.bl (crossI q p)) H
theorem inV2 (i a b : Int) : inV (V.int i) [V.int a, V.int b] = decide (i = a ∨ i = b) := by
  show ((a == i) || ((b == i) || false)) = _
  have e : ∀ x y : Int, (x == y) = decide (y = x) := fun x y => by
    by_cases h : y = x
    · rw [decide_eq_true h, h]; exact beq_self_eq_true x
    · rw [decide_eq_false h]; exact beq_eq_false_iff_ne.mpr fun z => h z.symm
  rw [Bool.or_false, e, e, ← Bool.decide_or]
/-- low < i < high, i asked once -/
def rChainI (lo hi i : Int) : Bool := decide (lo < i ∧ i < hi)

theorem cross_fin {lo hi i j : Int} : (!decide (V.bl (decide (lo < i ∧ i < hi)) = V.bl (decide (lo < j ∧ j < hi)))) = decide ((decide (lo < i ∧ i < hi)) ≠ (decide (lo < j ∧ j < hi))) := by
  rw [← decide_not, decide_eq_decide]
  exact ⟨fun h e => h (congrArg V.bl e), fun h e => h (V.bl.inj e)⟩
theorem and_t {A B : Prop} [Decidable A] [Decidable B] (h : decide A = true) : decide (A ∧ B) = decide B := by
  have := of_decide_eq_true h
  rw [decide_eq_decide]
  exact ⟨fun h => h.2, fun h => ⟨this, h⟩⟩
theorem and_f {A B : Prop} [Decidable A] [Decidable B] (h : ¬ decide A = true) : decide (A ∧ B) = false := decide_eq_false fun q => nd h q.1
theorem pmin (a b : Int) : (if b < a then b else a) = min a b := by
  by_cases h : b < a
  · rw [if_pos h, Int.min_eq_right (by omega)]
  · rw [if_neg h, Int.min_eq_left (by omega)]
theorem pmax (a b : Int) : (if b > a then b else a) = max a b := by
  by_cases h : b > a
  · rw [if_pos h, Int.max_eq_right (by omega)]
  · rw [if_neg h, Int.max_eq_left (by omega)]
theorem ok__law_cross (T : Env K mg) : FnOk P w K mg base CX0 1 T.a__law_cross T.fd__law_cross ["_law_one", "_law_other"] (sp_cross K) := by
  refine T.F__law_cross.ok sc__law_cross (fun vs H Q E h => ?_) (fun cdv A outer s H vs Q E hr h => ?_)
  · obtain ⟨x, y, p, q, rfl, _⟩ := h
    rfl
  · obtain ⟨x, y, p, q, rfl, hp, hq, k⟩ := h
    refine ⟨_, (pss_cons (ps_for PassesOwn.never rfl (pi_tup (pv 1)) (pg_name (i := 2) sc__law_cross.nd rfl (.inl rfl))
 (pss_one (ps_if (pt_cmpR op_in_seq (pv 2) (pv 0) (by rfl))
 (pss_one (ps_ret pe_bl))
 pss_nil)))
 (pss_cons (ps_set (i := 3) sc__law_cross.nd rfl (.inl rfl) (pe_callB (call_min2 rfl) (by rfl) T.m_min (by decide +kernel) (pa_cons (pe_ix ix_tup (pv 0) pe_int (fun _ _ => rfl)) (pa_cons (pe_ix ix_tup (pv 0) pe_int (fun _ _ => rfl)) pa_nil))))
 (pss_cons (ps_set (i := 4) sc__law_cross.nd rfl (.inl rfl) (pe_callB (call_max2 rfl) (by rfl) T.m_max (by decide +kernel) (pa_cons (pe_ix ix_tup (pv 0) pe_int (fun _ _ => rfl)) (pa_cons (pe_ix ix_tup (pv 0) pe_int (fun _ _ => rfl)) pa_nil))))
 (pss_one (ps_ret (pe_cmpR op_ne (pe_chain op_lt op_lt (pv 3) (pe_ix ix_tup (pv 1) pe_int (fun _ _ => rfl)) (pv 4)) (pe_chain op_lt op_lt (pv 3) (pe_ix ix_tup (pv 1) pe_int (fun _ _ => rfl)) (pv 4)) (nomark _))))))), ?_⟩
    obtain ⟨t, rfl, ht⟩ := hp
    obtain ⟨u, rfl, hu⟩ := hq
    have sT : SqT K H t [.int p.1, .int p.2] := .inl (.inl ht)
    have sU : SqT K H u [.int q.1, .int q.2] := .inl (.inl hu)
    obtain ⟨a, b⟩ := p
    obtain ⟨c, d⟩ := q
    dsimp only at *
    refine ⟨_, rfl, u, rfl, ⟨_, sU⟩, for_tup (K := K) (a := u) (xs := [.int c, .int d]) (fun i σ H' => H' = H ∧ (∃ z, σ = [some (.ref t), some (.ref u), z, none, none]) ∧ (0 < i → ¬ (c = a ∨ c = b)) ∧ (1 < i → ¬ (d = a ∨ d = b))) ⟨rfl, ⟨_, rfl⟩, fun h => absurd h (by decide), fun h => absurd h (by decide)⟩ ?_ ?_ ?_⟩
    · rintro i σ H' _ ⟨rfl, _⟩
      exact sU
    · rintro i x σ H' hx ⟨rfl, ⟨z, rfl⟩, h1, h2⟩
      match i, hx with
      | 0, hx =>
        obtain rfl := Option.some.inj hx
        refine ⟨_, rfl, _, rfl, t, _, rfl, .inr sT, rfl, rfl, _, rfl, ite2 (fun hd => ?_) (fun hd => ?_)⟩
        · have hd : inV (V.int c) [V.int a, V.int b] = true := hd
          rw [inV2] at hd
          have e : crossI (a, b) (c, d) = false := by
            unfold crossI
            have := of_decide_eq_true hd
            rw [if_pos (by dsimp only; omega)]
          rw [← e]
          exact k
        · have hd : ¬ inV (V.int c) [V.int a, V.int b] = true := hd
          rw [inV2] at hd
          exact ⟨rfl, ⟨_, rfl⟩, fun _ => nd hd, fun h => absurd h (by decide)⟩
      | 1, hx =>
        obtain rfl := Option.some.inj hx
        refine ⟨_, rfl, _, rfl, t, _, rfl, .inr sT, rfl, rfl, _, rfl, ite2 (fun hd => ?_) (fun hd => ?_)⟩
        · have hd : inV (V.int d) [V.int a, V.int b] = true := hd
          rw [inV2] at hd
          have e : crossI (a, b) (c, d) = false := by
            unfold crossI
            have := of_decide_eq_true hd
            rw [if_pos (by dsimp only; omega)]
          rw [← e]
          exact k
        · have hd : ¬ inV (V.int d) [V.int a, V.int b] = true := hd
          rw [inV2] at hd
          exact ⟨rfl, ⟨_, rfl⟩, fun _ => h1 (by decide), fun _ => nd hd⟩
      | i + 2, hx => cases hx
    · rintro σ H' ⟨rfl, ⟨z, rfl⟩, h1, h2⟩
      have h1 := h1 (by show 0 < 2; decide)
      have h2 := h2 (by show 1 < 2; decide)
      have k : Q (V.bl (!decide (V.bl (decide (min a b < c ∧ c < max a b)) = V.bl (decide (min a b < d ∧ d < max a b))))) H' := by
        rw [cross_fin]
        unfold crossI at k
        rw [if_neg (by dsimp only; omega)] at k
        exact k
      refine ⟨_, rfl, t, _, _, _, rfl, rfl, sT, atI_nat (j := 0) rfl, _, rfl, t, _, _, _, rfl, rfl, sT, atI_nat (j := 1) rfl, _, _, rfl, ?_⟩
      refine ⟨_, rfl, t, _, _, _, rfl, rfl, sT, atI_nat (j := 0) rfl, _, rfl, t, _, _, _, rfl, rfl, sT, atI_nat (j := 1) rfl, _, _, rfl, ?_⟩
      rw [pmin, pmax]
      refine ⟨_, rfl, _, rfl, u, _, _, _, rfl, rfl, sU, atI_nat (j := 0) rfl, _, _, rfl, rfl, _, rfl, ?_⟩
      refine ite2 (fun g => ?_) (fun g => ?_)
      · rw [and_t g] at k
        refine ⟨_, rfl, _, _, rfl, rfl, _, rfl, _, rfl, u, _, _, _, rfl, rfl, sU, atI_nat (j := 1) rfl, _, _, rfl, rfl, _, rfl, ite2 (fun f => ?_) (fun f => ?_)⟩
        · rw [and_t f] at k
          exact ⟨_, rfl, _, _, rfl, rfl, rfl, k⟩
        · rw [and_f f] at k
          exact ⟨rfl, k⟩
      · rw [and_f g] at k
        refine ⟨_, rfl, _, rfl, u, _, _, _, rfl, rfl, sU, atI_nat (j := 1) rfl, _, _, rfl, rfl, _, rfl, ite2 (fun f => ?_) (fun f => ?_)⟩
        · rw [and_t f] at k
          exact ⟨_, rfl, _, _, rfl, rfl, rfl, k⟩
        · rw [and_f f] at k
          exact ⟨rfl, k⟩

/-! ### the row of numbers that the script makes -/
def rowOk (rs : List Int) : Prop := ∀ v ∈ rs, 0 ≤ v ∧ v < 1000000
theorem rowOk_nil : rowOk [] := fun _ h => by cases h
theorem rowOk_add {rs : List Int} {v : Int} (h : rowOk rs) (h0 : 0 ≤ v) (h1 : v < 1000000) : rowOk (rs ++ [v]) := fun x hx => by
  rcases List.mem_append.mp hx with q | q
  · exact h x q
  · rw [List.mem_singleton.mp q]
    exact ⟨h0, h1⟩
def sp_flow (K : PySem.W.Frag) : Sp := fun vs H Q _ => ∃ (a : Addr) (ns : List Int) (m : Int), vs = [.ref a, .int m] ∧ SqL K H a (ns.map V.int) ∧ ns.length ≤ 63 ∧ 0 ≤ m ∧ m ≤ 1000 ∧
  ∀ H' p (rs : List Int), Same H H' → H p = none → rs.length = m.toNat → rowOk rs → H' p = some (.lst (rs.map V.int)) → Q (.ref p) H'
def flowInv (a : Addr) (m : Int) (p : Addr) (H : Hp) : Nat → L2.St → Hp → Prop := fun i σ H' => ∃ (g : Int) (rs : List Int) (k c x : Option V),
  σ = [some (.ref a), some (.int m), some (.int g), some (.ref p), k, c, x] ∧ Same H H' ∧ H' p = some (.lst (rs.map V.int)) ∧ rs.length = i ∧ rowOk rs
theorem mod_in (x : Int) : 0 ≤ x % 1000000 ∧ x % 1000000 < 1000000 := ⟨Int.emod_nonneg _ (by decide), Int.emod_lt_of_pos _ (by decide)⟩
theorem flow_turn {a p : Addr} {m g z : Int} {H H' : Hp} {i : Nat} {rs : List Int} {k c x : Option V} (hs : Same H H') (hp : H p = none) (hrl : rs.length = i) (hro : rowOk rs) :
    flowInv a m p H (i + 1) [some (.ref a), some (.int m), some (.int g), some (.ref p), k, c, x] (upd H' p (.lst (rs.map V.int ++ [V.int (z % 1000000)]))) := by
  refine ⟨g, rs ++ [z % 1000000], k, c, x, rfl, same_put hs hp, ?_, by rw [List.length_append, hrl]; rfl, rowOk_add hro (mod_in z).1 (mod_in z).2⟩
  rw [upd_same, List.map_append]; rfl
theorem mod_at {ns : List Int} (h : 0 < ns.length) (k : Nat) : ∃ z, atI (ns.map V.int) ((k : Int) % (ns.length : Int)) = some (.int z) := by
  have hk : k % ns.length < ns.length := Nat.mod_lt _ h
  refine ⟨ns[k % ns.length], ?_⟩
  rw [← Int.natCast_emod]
  refine atI_nat ?_
  rw [List.getElem?_map, List.getElem?_eq_getElem hk]
  rfl
theorem ok__law_flow (T : Env K mg) : FnOk P w K mg base CX0 1 T.a__law_flow T.fd__law_flow ["_law_script", "_law_many"] (sp_flow K) := by
  refine T.F__law_flow.ok sc__law_flow (fun vs H Q E h => ?_) (fun cdv A outer s H vs Q E hr h => ?_)
  · obtain ⟨a, ns, m, rfl, _⟩ := h
    rfl
  · obtain ⟨a, ns, m, rfl, hS, hl, hm0, hm1, q⟩ := h
    refine ⟨_, (pss_cons (ps_set (i := 2) sc__law_flow.nd rfl (.inl rfl) pe_int)
 (C8.pss_cut (ps_if (PW.pt (pw_and (pt_cmpR op_gt (pe_callB call_len_seq (by rfl) T.m_len (by decide +kernel) (pa_cons (pv 0) pa_nil)) pe_int (nomark _)) (pw_and1 (pt_cmpR op_ge (pe_callB call_abs (by rfl) T.m_abs (by decide +kernel) (pa_cons (pe_ix ix_list (pv 0) pe_int (fun _ _ => rfl)) pa_nil)) (pe_op op_pow pe_int pe_int) (nomark _)))))
 (pss_one (ps_set (i := 2) sc__law_flow.nd rfl (.inl rfl) (pe_op op_sub (pe_callB call_abs (by rfl) T.m_abs (by decide +kernel) (pa_cons (pe_ix ix_list (pv 0) pe_int (fun _ _ => rfl)) pa_nil)) (pe_op op_pow pe_int pe_int))))
 pss_nil)
 (pss_cons (ps_set (i := 3) sc__law_flow.nd rfl (.inl rfl) (pe_lst pa_nil))
 (pss_cons (ps_for PassesOwn.never rfl (pi_range1 (by rfl) T.m_range (pa_cons (pv 1) pa_nil)) (pg_name (i := 4) sc__law_flow.nd rfl (.inl rfl))
 (pss_one (ps_if (pt_cmpR op_gt (pv 2) pe_int (nomark _))
 (pss_cons (ps_expr (pe_bm PySem.F.plainAttrs_list PySem.F.slot_list_append PySem.F.type_list_append mt_append (pv 3) (pa_cons (pe_op op_mod (pv 2) pe_int) pa_nil)))
 (pss_one (ps_set (i := 2) sc__law_flow.nd rfl (.inl rfl) (pe_op op_fdiv (pv 2) pe_int))))
 (pss_cons (ps_set (i := 5) sc__law_flow.nd rfl (.inl rfl) (pe_op op_add (pv 4) pe_int))
 (C8.pss_cut (ps_if (pt_cmpR op_gt (pe_callB call_len_seq (by rfl) T.m_len (by decide +kernel) (pa_cons (pv 0) pa_nil)) pe_int (nomark _))
 (pss_one (ps_set (i := 5) sc__law_flow.nd rfl (.inl rfl) (pe_ix ix_list (pv 0) (pe_op op_mod (pv 4) (pe_callB call_len_seq (by rfl) T.m_len (by decide +kernel) (pa_cons (pv 0) pa_nil))) (fun _ _ => rfl))))
 pss_nil)
 (pss_cons (ps_set (i := 6) sc__law_flow.nd rfl (.inl rfl) (pe_op op_mod (pe_op op_add (pe_op op_add (pe_op op_mulU (pv 5) pe_int) (pe_op op_mulU (pv 4) pe_int)) pe_int) pe_int))
 (pss_cons (ps_set (i := 6) sc__law_flow.nd rfl (.inl rfl) (pe_op op_mod (pe_op op_add (pe_op op_add (pe_op op_mulU (pv 6) pe_int) (pe_op op_mulU (pv 4) pe_int)) (pe_callB call_len_seq (by rfl) T.m_len (by decide +kernel) (pa_cons (pv 0) pa_nil))) pe_int))
 (pss_one (ps_expr (pe_bm PySem.F.plainAttrs_list PySem.F.slot_list_append PySem.F.type_list_append mt_append (pv 3) (pa_cons (pe_op op_mod (pe_op op_fdiv (pv 6) pe_int) pe_int) pa_nil)))))))))))
 (pss_one (ps_ret (pv 3))))))), ?_⟩
    have hlen : (ns.map V.int).length = ns.length := List.length_map _
    refine ⟨fun σ' H' => ∃ g : Int, σ' = [some (.ref a), some (.int m), some (.int g), none, none, none, none] ∧ H = H', ?_, ?_⟩
    · refine ⟨_, rfl, _, _, rfl, .inl hS, _, _, rfl, rfl, _, rfl, ite2 (fun hd => ?_) (fun _ => ⟨_, rfl, rfl⟩)⟩
      have h0 : 0 < ns.length := by
        have := of_decide_eq_true hd
        rw [hlen] at this
        omega
      obtain ⟨z, hz⟩ := mod_at h0 0
      have hz0 : atI (ns.map V.int) 0 = some (.int z) := by
        have e : ((0 : Nat) : Int) % (ns.length : Int) = 0 := by simp
        rw [e] at hz
        exact hz
      refine ⟨_, rfl, a, _, _, _, rfl, rfl, hS, hz0, _, rfl, _, _, rfl, rfl, ⟨by decide, by decide, by decide⟩, _, _, rfl, rfl, _, rfl, ?_⟩
      refine ite2 (fun _ => ?_) (fun _ => ⟨_, rfl, rfl⟩)
      exact ⟨_, rfl, a, _, _, _, rfl, rfl, hS, hz0, _, rfl, _, _, rfl, rfl, ⟨by decide, by decide, by decide⟩, _, _, rfl, rfl, _, rfl, rfl⟩
    · rintro _ _ ⟨g, rfl, rfl⟩
      refine ⟨Nat.zero_le _, fun p hp => ?_⟩
      refine ⟨_, rfl, m, rfl, by omega, by omega, for_range (lo := 0) (n := m.toNat) (flowInv a m p H) ⟨g, [], none, none, none, rfl, same_new hp, upd_same, rfl, rowOk_nil⟩ ?_ ?_⟩
      · rintro i σ H' hi ⟨g, rs, k, c, x, rfl, hs, hpl, hrl, hro⟩
        have hA := hs.seq hS
        have hsz : (rs.map V.int).length < sizeLine := by rw [List.length_map]; exact small1000 (by omega)
        refine ⟨_, rfl, _, _, rfl, rfl, _, rfl, ite2 (fun _ => ?_) (fun _ => ?_)⟩
        · refine ⟨_, rfl, .inl ⟨rfl, _, .inl (.inl hpl)⟩, _, rfl, _, _, rfl, rfl, (by show (0 : Int) < _; decide), p, _, _, rfl, rfl, hpl, hsz, ?_⟩
          refine ⟨_, rfl, _, _, rfl, rfl, ⟨by decide, by decide⟩, ?_⟩
          exact flow_turn hs hp hrl hro
        · refine ⟨_, rfl, _, _, rfl, rfl, ?_⟩
          refine ⟨fun σ' H2 => ∃ cell : Int, σ' = [some (.ref a), some (.int m), some (.int g), some (.ref p), some (.int (0 + (i : Int))), some (.int cell), x] ∧ H' = H2, ?_, ?_⟩
          · refine ⟨_, rfl, _, _, rfl, .inl hA, _, _, rfl, rfl, _, rfl, ite2 (fun hd => ?_) (fun _ => ⟨_, rfl, rfl⟩)⟩
            have h0 : 0 < ns.length := by
              have := of_decide_eq_true hd
              rw [hlen] at this
              omega
            obtain ⟨z, hz⟩ := mod_at h0 i
            refine ⟨_, rfl, _, rfl, _, rfl, _, _, rfl, .inl hA, _, _, rfl, rfl, (by rw [hlen]; omega), a, _, _, .int z, rfl, rfl, hA, ?_, ⟨z, rfl, rfl⟩⟩
            rw [hlen, Int.zero_add]
            exact hz
          · rintro _ _ ⟨cell, rfl, rfl⟩
            refine ⟨_, rfl, _, _, rfl, rfl, mulR (by decide) (by decide), _, rfl, _, _, rfl, rfl, mulR (by decide) (by decide), _, _, rfl, rfl, _, _, rfl, rfl, _, _, rfl, rfl, (by show (0 : Int) < _; decide), ?_⟩
            refine ⟨_, rfl, _, _, rfl, rfl, mulR (by decide) (by decide), _, rfl, _, _, rfl, rfl, mulR (by decide) (by decide), _, _, rfl, rfl, _, rfl, _, _, rfl, .inl hA, _, _, rfl, rfl, _, _, rfl, rfl, (by show (0 : Int) < _; decide), ?_⟩
            refine ⟨_, rfl, .inl ⟨rfl, _, .inl (.inl hpl)⟩, _, rfl, _, _, rfl, rfl, ⟨by decide, by decide⟩, _, _, rfl, rfl, (by show (0 : Int) < _; decide), p, _, _, rfl, rfl, hpl, hsz, ?_⟩
            exact flow_turn hs hp hrl hro
      · rintro σ H' ⟨g, rs, k, c, x, rfl, hs, hpl, hrl, hro⟩
        exact ⟨_, rfl, q H' p rs hs hp hrl hro hpl⟩

theorem crossI_t {p q : Int × Int} (h : q.1 = p.1 ∨ q.1 = p.2 ∨ q.2 = p.1 ∨ q.2 = p.2) : crossI p q = false := by unfold crossI; rw [if_pos h]
theorem crossI_f {p q : Int × Int} (h : ¬ (q.1 = p.1 ∨ q.1 = p.2 ∨ q.2 = p.1 ∨ q.2 = p.2)) : crossI p q = (!decide (V.bl (decide (min p.1 p.2 < q.1 ∧ q.1 < max p.1 p.2)) = V.bl (decide (min p.1 p.2 < q.2 ∧ q.2 < max p.1 p.2)))) := by
  unfold crossI
  rw [cross_fin, if_neg h]
theorem ok_crosses (T : Env K mg) : FnOk P w K mg base CX0 1 T.a_crosses T.fd_crosses ["one", "other"] (sp_crosses K) := by
  refine T.F_crosses.ok sc_crosses (fun vs H Q E h => ?_) (fun cdv A outer s H vs Q E hr h => ?_)
  · obtain ⟨x, y, p, q, rfl, _⟩ := h
    rfl
  · obtain ⟨x, y, p, q, rfl, hp, hq, k⟩ := h
    refine ⟨_, (pss_cons (ps_asg (pv 0) (pg_tup rfl (pgs_cons (pg_name (i := 2) sc_crosses.nd rfl (.inl rfl)) (pgs_cons (pg_name (i := 3) sc_crosses.nd rfl (.inl rfl)) pgs_nil))))
 (pss_cons (ps_if (PW.pt (pw_or (pt_cmpR op_in_seq (pv 2) (pv 1) (by rfl)) (pw_or1 (pt_cmpR op_in_seq (pv 3) (pv 1) (by rfl)))))
 (pss_one (ps_ret pe_bl))
 pss_nil)
 (pss_cons (ps_par (i := 4) (j := 5) (by rfl) sc_crosses.nd rfl rfl (by decide) rfl rfl (pa_cons (pe_callB (cr_min2T rfl (by exact hr.units)) (by rfl) T.m_min (by decide +kernel) (pa_cons (pv 1) pa_nil)) (pa_cons (pe_callB (cr_max2T rfl (by exact hr.units)) (by rfl) T.m_max (by decide +kernel) (pa_cons (pv 1) pa_nil)) pa_nil)) (by rfl))
 (pss_one (ps_ret (pe_cmpR op_ne (pe_chain op_lt op_lt (pv 4) (pv 2) (pv 5)) (pe_chain op_lt op_lt (pv 4) (pv 3) (pv 5)) (nomark _))))))), ?_⟩
    obtain ⟨t, rfl, ht⟩ := hp
    obtain ⟨u, rfl, hu⟩ := hq
    have sT : SqT K H t [.int p.1, .int p.2] := .inl (.inl ht)
    have sU : SqT K H u [.int q.1, .int q.2] := .inl (.inl hu)
    obtain ⟨a, b⟩ := p
    obtain ⟨c, d⟩ := q
    dsimp only at *
    refine ⟨_, rfl, t, _, rfl, sT, rfl, _, _, rfl, _, _, rfl, rfl, ?_⟩
    refine ⟨_, rfl, _, rfl, u, _, rfl, .inr sU, rfl, rfl, _, rfl, ?_⟩
    show if inV (V.int a) [V.int c, V.int d] = true then _ else _
    rw [inV2]
    refine ite2 (fun g => ?_) (fun g => ?_)
    · have := of_decide_eq_true g
      rw [crossI_t (by dsimp only; omega)] at k
      exact k
    refine ⟨_, rfl, _, rfl, u, _, rfl, .inr sU, rfl, rfl, _, rfl, ?_⟩
    show if inV (V.int b) [V.int c, V.int d] = true then _ else _
    rw [inV2]
    refine ite2 (fun f => ?_) (fun f => ?_)
    · have := of_decide_eq_true f
      rw [crossI_t (by dsimp only; omega)] at k
      exact k
    have g := nd g
    have f := nd f
    rw [crossI_f (by dsimp only; omega)] at k
    dsimp only at k
    refine ⟨_, rfl, u, _, _, rfl, sU, _, rfl, u, _, _, rfl, sU, _, _, rfl, ?_⟩
    refine ⟨_, rfl, _, rfl, _, _, rfl, rfl, _, rfl, ite2 (fun g => ?_) (fun g => ?_)⟩
    · rw [and_t g] at k
      refine ⟨_, rfl, _, _, rfl, rfl, _, rfl, _, rfl, _, _, rfl, rfl, _, rfl, ite2 (fun f => ?_) (fun f => ?_)⟩
      · rw [and_t f] at k
        exact ⟨_, rfl, _, _, rfl, rfl, rfl, k⟩
      · rw [and_f f] at k
        exact ⟨rfl, k⟩
    · rw [and_f g] at k
      refine ⟨_, rfl, _, rfl, _, _, rfl, rfl, _, rfl, ite2 (fun f => ?_) (fun f => ?_)⟩
      · rw [and_t f] at k
        exact ⟨_, rfl, _, _, rfl, rfl, rfl, k⟩
      · rw [and_f f] at k
        exact ⟨rfl, k⟩

def sp_says (K : PySem.W.Frag) : Sp := fun vs H Q _ => ∃ (x y : V) (p q : Int × Int), vs = [x, y] ∧ PrAt K H x p ∧ PrAt K H y q ∧ p.1 ≠ p.2 ∧ q.1 ≠ q.2 ∧ Q (.bl true) H
theorem ok__law_says (T : Env K mg) : FnOk P w K mg base CX0 2 T.a__law_says T.fd__law_says ["_law_one", "_law_other"] (sp_says K) := by
  refine T.F__law_says.ok sc__law_says (fun vs H Q E h => ?_) (fun cdv A outer s H vs Q E hr h => ?_)
  · obtain ⟨x, y, p, q, rfl, _⟩ := h
    rfl
  · obtain ⟨x, y, p, q, rfl, hp, hq, h1, h2, k⟩ := h
    refine ⟨_, (pss_cons (ps_set (i := 2) sc__law_says.nd rfl (.inl rfl) (pe_call (ok_crosses T) (hr.mono (by decide)) (by rfl) T.g_crosses T.F_crosses.kp T.b_crosses .nil pass0 (pa_cons (pv 0) (pa_cons (pv 1) pa_nil))))
 (pss_one (ps_ret (pe_and (pe_callB call_isi (by rfl) T.m_isinstance (by decide +kernel) (pa_cons (pv 2) (pa_cons (pe_bltn (v := .ty "bool") (u := .type "bool") (by rfl) T.m_bool (by decide +kernel) rfl) pa_nil))) (pe_one (pe_cmpR op_eq (pv 2) (pe_call (ok__law_cross T) (hr.mono (by decide)) (by rfl) T.g__law_cross T.F__law_cross.kp T.b__law_cross .nil pass0 (pa_cons (pv 0) (pa_cons (pv 1) pa_nil))) (nomark _))))))), ?_⟩
    refine ⟨_, rfl, _, rfl, x, y, p, q, rfl, hp, hq, ?_⟩
    refine ⟨_, rfl, _, _, _, _, _, rfl, .ty _, .base (.bl _), kit_ty (by decide +kernel), true, rfl, iteT ?_⟩
    refine ⟨_, rfl, _, rfl, _, rfl, x, y, p, q, rfl, hp, hq, rfl, ?_⟩
    rw [crossI_symm h1 h2, decide_eq_true rfl]
    exact k
theorem pr_new {H : Hp} {t : Addr} {a b : Int} : PrAt K (upd H t (.tup [.int a, .int b])) (.ref t) (a, b) := ⟨t, rfl, upd_same⟩
theorem two_le : 2 ≤ sizeLine := by decide
def sp_law (K : PySem.W.Frag) : Sp := fun vs H Q _ => ∃ (a : Addr) (ns : List Int), vs = [.ref a] ∧ SqL K H a (ns.map V.int) ∧ ns.length ≤ 63 ∧ ∀ H', Q (.bl true) H'
theorem unlike {a r m : Int} (h0 : 0 ≤ a) (h1 : a < m) (hm : 2 ≤ m) : a ≠ (a + 1 + r % (m - 1)) % m := by
  have g0 := Int.emod_nonneg r (show m - 1 ≠ 0 by omega)
  have g1 := Int.emod_lt_of_pos r (show 0 < m - 1 by omega)
  generalize r % (m - 1) = k at *
  by_cases h : a + 1 + k < m
  · rw [Int.emod_eq_of_lt (by omega) h]
    omega
  · have e : (a + 1 + k) % m = a + 1 + k - m := by
      rw [← Int.sub_emod_right, Int.emod_eq_of_lt (by omega) (by omega)]
    rw [e]
    omega
theorem ok_law (T : Env K mg) : FnOk P w K mg base CX0 3 T.a_law T.fd_law ["_law_script"] (sp_law K) := by
  refine T.F_law.ok sc_law (fun vs H Q E h => ?_) (fun cdv A outer s H vs Q E hr h => ?_)
  · obtain ⟨a, ns, rfl, _⟩ := h
    rfl
  · obtain ⟨a, ns, rfl, hS, hl, q⟩ := h
    refine ⟨_, (pss_cons (ps_set (i := 1) sc_law.nd rfl (.inl rfl) (pe_call (ok__law_flow T) (hr.mono (by decide)) (by rfl) T.g__law_flow T.F__law_flow.kp T.b__law_flow .nil pass0 (pa_cons (pv 0) (pa_cons pe_int pa_nil))))
 (pss_cons (ps_set (i := 2) sc_law.nd rfl (.inl rfl) pe_int)
 (C8.pss_cut (ps_if (pt_cmpR op_eq (pe_op op_mod (pe_ix ix_list (pv 1) pe_int (fun _ _ => rfl)) pe_int) pe_int (nomark _))
 (pss_one (ps_set (i := 2) sc_law.nd rfl (.inl rfl) pe_int))
 pss_nil)
 (pss_cons (ps_set (i := 3) sc_law.nd rfl (.inl rfl) (pe_op op_mod (pe_ix ix_list (pv 1) pe_int (fun _ _ => rfl)) (pv 2)))
 (pss_cons (ps_set (i := 4) sc_law.nd rfl (.inl rfl) (pe_op op_mod (pe_op op_add (pe_op op_add (pv 3) pe_int) (pe_op op_mod (pe_ix ix_list (pv 1) pe_int (fun _ _ => rfl)) (pe_op op_sub (pv 2) pe_int))) (pv 2)))
 (pss_cons (ps_set (i := 5) sc_law.nd rfl (.inl rfl) (pe_op op_mod (pe_ix ix_list (pv 1) pe_int (fun _ _ => rfl)) (pv 2)))
 (C8.pss_cut (ps_if (pt_cmpR op_eq (pe_op op_mod (pe_ix ix_list (pv 1) pe_int (fun _ _ => rfl)) pe_int) pe_int (nomark _))
 (pss_one (ps_set (i := 5) sc_law.nd rfl (.inl rfl) (pv 4)))
 pss_nil)
 (pss_cons (ps_set (i := 6) sc_law.nd rfl (.inl rfl) (pe_op op_mod (pe_op op_add (pe_op op_add (pv 5) pe_int) (pe_op op_mod (pe_ix ix_list (pv 1) pe_int (fun _ _ => rfl)) (pe_op op_sub (pv 2) pe_int))) (pv 2)))
 (pss_cons (ps_if (PW.pt (pw_or (pt_not (pt_val (pe_call (ok__law_says T) (hr.mono (by decide)) (by rfl) T.g__law_says T.F__law_says.kp T.b__law_says .nil pass0 (pa_cons (pe_tup (pa_cons (pv 3) (pa_cons (pv 4) pa_nil))) (pa_cons (pe_tup (pa_cons (pv 5) (pa_cons (pv 6) pa_nil))) pa_nil))))) (pw_or1 (pt_not (pt_val (pe_call (ok__law_says T) (hr.mono (by decide)) (by rfl) T.g__law_says T.F__law_says.kp T.b__law_says .nil pass0 (pa_cons (pe_tup (pa_cons (pv 5) (pa_cons (pv 6) pa_nil))) (pa_cons (pe_tup (pa_cons (pv 3) (pa_cons (pv 4) pa_nil))) pa_nil))))))))
 (pss_one (ps_ret pe_bl))
 pss_nil)
 (pss_one (ps_ret (pe_and (pe_call (ok__law_says T) (hr.mono (by decide)) (by rfl) T.g__law_says T.F__law_says.kp T.b__law_says .nil pass0 (pa_cons (pe_tup (pa_cons (pv 4) (pa_cons (pv 3) pa_nil))) (pa_cons (pe_tup (pa_cons (pv 5) (pa_cons (pv 6) pa_nil))) pa_nil))) (pe_and (pe_call (ok__law_says T) (hr.mono (by decide)) (by rfl) T.g__law_says T.F__law_says.kp T.b__law_says .nil pass0 (pa_cons (pe_tup (pa_cons (pv 3) (pa_cons (pv 4) pa_nil))) (pa_cons (pe_tup (pa_cons (pv 6) (pa_cons (pv 5) pa_nil))) pa_nil))) (pe_one (pe_call (ok__law_says T) (hr.mono (by decide)) (by rfl) T.g__law_says T.F__law_says.kp T.b__law_says .nil pass0 (pa_cons (pe_tup (pa_cons (pv 6) (pa_cons (pv 5) pa_nil))) (pa_cons (pe_tup (pa_cons (pv 4) (pa_cons (pv 3) pa_nil))) pa_nil))))))))))))))))), ?_⟩
    refine ⟨_, rfl, a, ns, 8, rfl, hS, hl, by decide, by decide, fun H1 p rs hs hp hlen hro hrow => ?_⟩
    obtain ⟨r0, r1, r2, r3, r4, r5, r6, r7, rfl⟩ : ∃ r0 r1 r2 r3 r4 r5 r6 r7, rs = [r0, r1, r2, r3, r4, r5, r6, r7] := by
      match rs, hlen with
      | [a, b, c, d, e, f, g, h], _ => exact ⟨a, b, c, d, e, f, g, h, rfl⟩
    have hR : SqL K H1 p ([r0, r1, r2, r3, r4, r5, r6, r7].map V.int) := .inl (.inl hrow)
    refine ⟨fun σ' H2 => H1 = H2 ∧ ∃ m : Int, σ' = [some (.ref a), some (.ref p), some (.int m), none, none, none, none] ∧ 2 ≤ m ∧ m ≤ 1000000, ?_, ?_⟩
    · refine ⟨_, rfl, p, _, _, _, rfl, rfl, hR, atI_nat (j := 0) rfl, _, _, rfl, rfl, (by show (0 : Int) < _; decide), rfl, _, rfl, ite2 (fun _ => ?_) (fun _ => ?_)⟩
      · exact ⟨rfl, _, rfl, by decide, by decide⟩
      · exact ⟨rfl, _, rfl, by decide, by decide⟩
    rintro _ _ ⟨rfl, m, rfl, hm0, hm1⟩
    refine ⟨_, rfl, p, _, _, _, rfl, rfl, hR, atI_nat (j := 1) rfl, _, rfl, _, _, rfl, rfl, (by show (0 : Int) < _; omega), ?_⟩
    have ha0 := Int.emod_nonneg r1 (show m ≠ 0 by omega)
    have ha1 := Int.emod_lt_of_pos r1 (show 0 < m by omega)
    refine ⟨_, rfl, _, _, rfl, rfl, _, rfl, p, _, _, _, rfl, rfl, hR, atI_nat (j := 2) rfl, _, rfl, _, _, rfl, rfl, _, _, rfl, rfl, (by show (0 : Int) < _; omega), _, _, rfl, rfl, _, rfl, _, _, rfl, rfl, (by show (0 : Int) < _; omega), ?_⟩
    have hxy := unlike (r := r2) ha0 ha1 hm0
    have hy0 := Int.emod_nonneg (r1 % m + 1 + r2 % (m - 1)) (show m ≠ 0 by omega)
    have hy1 := Int.emod_lt_of_pos (r1 % m + 1 + r2 % (m - 1)) (show 0 < m by omega)
    refine ⟨_, rfl, p, _, _, _, rfl, rfl, hR, atI_nat (j := 3) rfl, _, rfl, _, _, rfl, rfl, (by show (0 : Int) < _; omega), ?_⟩
    have hz0 := Int.emod_nonneg r3 (show m ≠ 0 by omega)
    have hz1 := Int.emod_lt_of_pos r3 (show 0 < m by omega)
    refine ⟨fun σ' H2 => H1 = H2 ∧ ∃ x y z : Int, σ' = [some (.ref a), some (.ref p), some (.int m), some (.int x), some (.int y), some (.int z), none] ∧ x ≠ y ∧ 0 ≤ z ∧ z < m, ?_, ?_⟩
    · refine ⟨_, rfl, p, _, _, _, rfl, rfl, hR, atI_nat (j := 4) rfl, _, _, rfl, rfl, (by show (0 : Int) < _; decide), rfl, _, rfl, ite2 (fun _ => ?_) (fun _ => ?_)⟩
      · exact ⟨_, rfl, rfl, _, _, _, rfl, hxy, hy0, hy1⟩
      · exact ⟨rfl, _, _, _, rfl, hxy, hz0, hz1⟩
    clear hxy hy0 hy1 hz0 hz1 ha0 ha1
    rintro _ _ ⟨rfl, x, y, z, rfl, hxy, hz0, hz1⟩
    refine ⟨_, rfl, _, _, rfl, rfl, _, rfl, p, _, _, _, rfl, rfl, hR, atI_nat (j := 5) rfl, _, rfl, _, _, rfl, rfl, _, _, rfl, rfl, (by show (0 : Int) < _; omega), _, _, rfl, rfl, _, rfl, _, _, rfl, rfl, (by show (0 : Int) < _; omega), ?_⟩
    have hzw := unlike (r := r5) hz0 hz1 hm0
    refine ⟨_, rfl, _, rfl, two_le, fun t1 _ => ⟨_, rfl, _, rfl, two_le, fun u1 g1 => ⟨_, _, (_, _), (_, _), rfl, pr_new.mono (same_new g1), pr_new, hxy, hzw, ⟨true, rfl, ?_⟩⟩⟩⟩
    show if false = true then _ else _
    rw [if_neg Bool.false_ne_true]
    refine ⟨_, rfl, _, rfl, two_le, fun t2 _ => ⟨_, rfl, _, rfl, two_le, fun u2 g2 => ⟨_, _, (_, _), (_, _), rfl, pr_new.mono (same_new g2), pr_new, hzw, hxy, ⟨true, rfl, ?_⟩⟩⟩⟩
    show if false = true then _ else _
    rw [if_neg Bool.false_ne_true]
    refine ⟨_, rfl, _, rfl, two_le, fun t3 _ => ⟨_, rfl, _, rfl, two_le, fun u3 g3 => ⟨_, _, (_, _), (_, _), rfl, pr_new.mono (same_new g3), pr_new, hxy.symm, hzw, ⟨true, rfl, iteT ?_⟩⟩⟩⟩
    refine ⟨_, rfl, _, rfl, two_le, fun t4 _ => ⟨_, rfl, _, rfl, two_le, fun u4 g4 => ⟨_, _, (_, _), (_, _), rfl, pr_new.mono (same_new g4), pr_new, hxy, hzw.symm, ⟨true, rfl, iteT ?_⟩⟩⟩⟩
    exact ⟨_, rfl, _, rfl, two_le, fun t5 _ => ⟨_, rfl, _, rfl, two_le, fun u5 g5 => ⟨_, _, (_, _), (_, _), rfl, pr_new.mono (same_new g5), pr_new, hzw.symm, hxy.symm, (q _)⟩⟩⟩

theorem all_mk {l : PySem.W.OpenLaw} {w : World} {K : PySem.W.Frag} {h : Heap} {mg : Str → Option Value} {fa f_crosses f__law_flow f__law_cross f__law_says f_law : Addr} (X : K.In h) (G : h.Ns mainGlobals mg) (hfa : mg "law" = some (.ref fa))
    {od_crosses an_crosses : Option Addr} {sl_crosses : Array (Option Value)} {oc_crosses kV_crosses dc_crosses pm_crosses cd_crosses ct_crosses : Value}
    {od__law_flow an__law_flow : Option Addr} {sl__law_flow : Array (Option Value)} {oc__law_flow kV__law_flow dc__law_flow pm__law_flow cd__law_flow ct__law_flow : Value}
    {od__law_cross an__law_cross : Option Addr} {sl__law_cross : Array (Option Value)} {oc__law_cross kV__law_cross dc__law_cross pm__law_cross cd__law_cross ct__law_cross : Value}
    {od__law_says an__law_says : Option Addr} {sl__law_says : Array (Option Value)} {oc__law_says kV__law_says dc__law_says pm__law_says cd__law_says ct__law_says : Value}
    {od_law an_law : Option Addr} {sl_law : Array (Option Value)} {oc_law kV_law dc_law pm_law cd_law ct_law : Value}
    (a_crosses : PySem.W.nsIn K mainGlobals "crosses" = some (some (.ref f_crosses)))
    (l_crosses : K.lookup f_crosses = some ⟨oc_crosses, od_crosses, .func (PySem.W.fnOf "crosses" "crosses" (defArgs s_crosses) (defBody s_crosses) (defScope s_crosses) .none kV_crosses dc_crosses pm_crosses an_crosses cd_crosses ct_crosses), sl_crosses⟩)
    (c_crosses : PySem.W.codeIn K cd_crosses "crosses" = true)
    (k_crosses : PySem.W.keepIn K (.ref f_crosses) = true)
    (a__law_flow : PySem.W.nsIn K mainGlobals "_law_flow" = some (some (.ref f__law_flow)))
    (l__law_flow : K.lookup f__law_flow = some ⟨oc__law_flow, od__law_flow, .func (PySem.W.fnOf "_law_flow" "_law_flow" (defArgs s__law_flow) (defBody s__law_flow) (defScope s__law_flow) .none kV__law_flow dc__law_flow pm__law_flow an__law_flow cd__law_flow ct__law_flow), sl__law_flow⟩)
    (c__law_flow : PySem.W.codeIn K cd__law_flow "_law_flow" = true)
    (k__law_flow : PySem.W.keepIn K (.ref f__law_flow) = true)
    (a__law_cross : PySem.W.nsIn K mainGlobals "_law_cross" = some (some (.ref f__law_cross)))
    (l__law_cross : K.lookup f__law_cross = some ⟨oc__law_cross, od__law_cross, .func (PySem.W.fnOf "_law_cross" "_law_cross" (defArgs s__law_cross) (defBody s__law_cross) (defScope s__law_cross) .none kV__law_cross dc__law_cross pm__law_cross an__law_cross cd__law_cross ct__law_cross), sl__law_cross⟩)
    (c__law_cross : PySem.W.codeIn K cd__law_cross "_law_cross" = true)
    (k__law_cross : PySem.W.keepIn K (.ref f__law_cross) = true)
    (a__law_says : PySem.W.nsIn K mainGlobals "_law_says" = some (some (.ref f__law_says)))
    (l__law_says : K.lookup f__law_says = some ⟨oc__law_says, od__law_says, .func (PySem.W.fnOf "_law_says" "_law_says" (defArgs s__law_says) (defBody s__law_says) (defScope s__law_says) .none kV__law_says dc__law_says pm__law_says an__law_says cd__law_says ct__law_says), sl__law_says⟩)
    (c__law_says : PySem.W.codeIn K cd__law_says "_law_says" = true)
    (k__law_says : PySem.W.keepIn K (.ref f__law_says) = true)
    (a_law : PySem.W.nsIn K mainGlobals "law" = some (some (.ref f_law)))
    (l_law : K.lookup f_law = some ⟨oc_law, od_law, .func (PySem.W.fnOf "law" "law" (defArgs s_law) (defBody s_law) (defScope s_law) .none kV_law dc_law pm_law an_law cd_law ct_law), sl_law⟩)
    (c_law : PySem.W.codeIn K cd_law "law" = true)
    (k_law : PySem.W.keepIn K (.ref f_law) = true)
    (z_abs : PySem.W.nsIn K mainGlobals "abs" = some none)
    (z_bool : PySem.W.nsIn K mainGlobals "bool" = some none)
    (z_isinstance : PySem.W.nsIn K mainGlobals "isinstance" = some none)
    (z_len : PySem.W.nsIn K mainGlobals "len" = some none)
    (z_max : PySem.W.nsIn K mainGlobals "max" = some none)
    (z_min : PySem.W.nsIn K mainGlobals "min" = some none)
    (z_range : PySem.W.nsIn K mainGlobals "range" = some none)
    : ∃ fd : FuncData, (∀ (s : Shared) (v : Value), BindsTo s fd ⟨[v], []⟩ [("_law_script", v)]) ∧ ∀ base : Heap, K.In base → base.Ns mainGlobals mg → FnOk l.prog w K mg base CX0 3 fa fd ["_law_script"] (sp_law K) := by
  have e := hfa.symm.trans (PySem.W.mg_of X G a_law)
  cases e
  have F_crosses := fun_mk (st := s_crosses) l_crosses c_crosses k_crosses
  have F__law_flow := fun_mk (st := s__law_flow) l__law_flow c__law_flow k__law_flow
  have F__law_cross := fun_mk (st := s__law_cross) l__law_cross c__law_cross k__law_cross
  have F__law_says := fun_mk (st := s__law_says) l__law_says c__law_says k__law_says
  have F_law := fun_mk (st := s_law) l_law c_law k_law
  let T : Env K mg := { a_crosses := _, fd_crosses := _, F_crosses := F_crosses, g_crosses := PySem.W.mg_of X G a_crosses, b_crosses := F_crosses.binds (ps := ["one", "other"]) fun _ _ _ _ _ _ us hl => match us, hl with | [_, _], _ => rfl, a__law_flow := _, fd__law_flow := _, F__law_flow := F__law_flow, g__law_flow := PySem.W.mg_of X G a__law_flow, b__law_flow := F__law_flow.binds (ps := ["_law_script", "_law_many"]) fun _ _ _ _ _ _ us hl => match us, hl with | [_, _], _ => rfl, a__law_cross := _, fd__law_cross := _, F__law_cross := F__law_cross, g__law_cross := PySem.W.mg_of X G a__law_cross, b__law_cross := F__law_cross.binds (ps := ["_law_one", "_law_other"]) fun _ _ _ _ _ _ us hl => match us, hl with | [_, _], _ => rfl, a__law_says := _, fd__law_says := _, F__law_says := F__law_says, g__law_says := PySem.W.mg_of X G a__law_says, b__law_says := F__law_says.binds (ps := ["_law_one", "_law_other"]) fun _ _ _ _ _ _ us hl => match us, hl with | [_, _], _ => rfl, a_law := _, fd_law := _, F_law := F_law, g_law := PySem.W.mg_of X G a_law, b_law := F_law.binds (ps := ["_law_script"]) fun _ _ _ _ _ _ us hl => match us, hl with | [_], _ => rfl, m_abs := PySem.W.mg_none_of X G z_abs, m_bool := PySem.W.mg_none_of X G z_bool, m_isinstance := PySem.W.mg_none_of X G z_isinstance, m_len := PySem.W.mg_none_of X G z_len, m_max := PySem.W.mg_none_of X G z_max, m_min := PySem.W.mg_none_of X G z_min, m_range := PySem.W.mg_none_of X G z_range }
  exact ⟨PySem.W.fnOf "law" "law" (defArgs s_law) (defBody s_law) (defScope s_law) .none kV_law dc_law pm_law an_law cd_law ct_law, fun s v => .of_eq rfl, fun base _ _ => ok_law T⟩
end
end My
open PySem PySem.W PyProof.Rows
set_option maxRecDepth 100000 in
set_option maxHeartbeats 0 in
theorem PySem.Challenge.cw_postmead_k08_pairs_cross_holds : PySem.Challenge.rw_postmead_k08_pairs_cross.Holds := by
  w_on; o_law; k_head; (case hw => w_witness2)
  k_fill
  refine L2.walk_of (l := PySem.Challenge.rw_postmead_k08_pairs_cross) (n := 63) (k := 3) (x := "_law_script") (CX := fun _ => L2.CX0) (sp := fun w => My.sp_law _) rfl (by decide) rfl ⟨rfl, by decide, by decide⟩ (fun w h Y => PySem.W.kIn_of Y) ?F (fun _ _ a ns hl _ hS => ⟨a, ns, rfl, hS, hl, fun _ => rfl⟩) (fun _ _ _ _ _ h => h)
  case F =>
    intro w mg fa h KX G hmg
    refine' My.all_mk KX G hmg ?a_crosses ?l_crosses ?c_crosses ?k_crosses ?a__law_flow ?l__law_flow ?c__law_flow ?k__law_flow ?a__law_cross ?l__law_cross ?c__law_cross ?k__law_cross ?a__law_says ?l__law_says ?c__law_says ?k__law_says ?a_law ?l_law ?c_law ?k_law ?z_abs ?z_bool ?z_isinstance ?z_len ?z_max ?z_min ?z_range
    (case a_crosses => k_is)
    (case l_crosses => k_is)
    (case c_crosses => k_is)
    (case k_crosses => k_is)
    (case a__law_flow => k_is)
    (case l__law_flow => k_is)
    (case c__law_flow => k_is)
    (case k__law_flow => k_is)
    (case a__law_cross => k_is)
    (case l__law_cross => k_is)
    (case c__law_cross => k_is)
    (case k__law_cross => k_is)
    (case a__law_says => k_is)
    (case l__law_says => k_is)
    (case c__law_says => k_is)
    (case k__law_says => k_is)
    (case a_law => k_is)
    (case l_law => k_is)
    (case c_law => k_is)
    (case k_law => k_is)
    (case z_abs => k_is)
    (case z_bool => k_is)
    (case z_isinstance => k_is)
    (case z_len => k_is)
    (case z_max => k_is)
    (case z_min => k_is)
    (case z_range => k_is)
#print axioms PySem.Challenge.cw_postmead_k08_pairs_cross_holds
