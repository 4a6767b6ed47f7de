
import PyProof.Rows.All
import HandS.Head0
import HandS.Head1
import HandS.Head2
import HandS.Head3
import HandS.HeadEnd
import HandS.HeadHook1
import Wide.All
import OpenK.AllK
import Wide.FinOn
import HandS.ForMost
import HandS.ForExc
import HandS.Wide
import HandS.Gcd
import HandS.IsInst
import HandS.ExcIs
import HandS.Codes
import HandS.SortRule
import HandS.Deep
import KE.DataMinMax
import HandS.Conv
import HandS.SortInts
import KE.KDictWalk
import KE.KDictCopyH
import KE.KDictOf
import HandS.DictTup
import HandS.DictComp
import KE.SortData
import KE.DataCmp
import HandS.TupAny
import HandS.SortKw
import PyProof.ZipIter
import PyProof.CallType
import PyProof.RangeIter
import PyProof.RulesTry
import HandS.Iter
import HandS.TupLe
import KE.KEqDict
import HandS.Style
import HandS.Zip
import HandS.Walk
import HandS.Flow
import HandS.Nested
import HandS.ExcInit
import HandS.ExcField
import KE.KExcSuper
import PySem.Challenge.RW_postmead_k29_tables_of_pairs
set_option Elab.async false
set_option linter.all false
set_option maxRecDepth 100000
set_option maxHeartbeats 4000000
namespace My
open PySem PySem.Spec PyProof.Rows L2
/-! ### readings: small steps -/
local macro_rules | `(tactic| walk_at "rd") => `(tactic| repeat (first
  | refine ⟨_, rfl, ?_⟩
  | refine ⟨_, _, rfl, rfl, ?_⟩
  | refine ⟨.inr ⟨by decide, by decide⟩, ?_⟩
  | refine ⟨by decide, ?_⟩))
theorem op_fdivX {X : Cx} : OpR X (binaryOp .FloorDiv) (rI (fun _ j => j ≠ 0 ∧ j.natAbs.log2 < 9000) fun i j => .int (i.fdiv j)) :=
  opI fun _ _ _ _ _ _ _ hc q => floordiv_int hc.1 q (.inl (PyProof.noPylong_of_log2 hc.2))
theorem op_mulU {X : Cx} : OpR X (binaryOp .Mult) (rI IntMulOk fun i j => .int (i * j)) := opI fun _ _ _ _ _ _ _ hc q => mul_int q hc
theorem mulL {i j : Int} (h0 : -(2 ^ 64) < i) (h1 : i < 2 ^ 64) : IntMulOk i j := CMul.ok (.inl ⟨h0, h1⟩)
theorem mulR {i j : Int} (h0 : -(2 ^ 64) < j) (h1 : j < 2 ^ 64) : IntMulOk i j := CMul.ok (.inr ⟨h0, h1⟩)
theorem nd {p : Prop} [Decidable p] (h : ¬ decide p = true) : ¬ p := fun hp => h (decide_eq_true hp)
theorem zc_of {cls : Value} {d : Option Addr} {C : Addr} {oe : Obj} (h : Zc cls d oe) (e : cls = .ref C ∧ d = none) : Zc (.ref C) none oe := by
  obtain ⟨e1, e2⟩ := e
  rw [← e1, ← e2]
  exact h
theorem same_new {H : Hp} {p : Addr} {o : HO} (h : H p = none) : Same H (upd H p o) := fun b x e => by
  rw [upd_ne (ne_of_none e h)]
  exact e
theorem same_put {H H' : Hp} {p : Addr} {o : HO} (s : Same H H') (h : H p = none) : Same H (upd H' p o) := fun b x e => by
  rw [upd_ne (ne_of_none e h)]
  exact s _ _ e
theorem log_small {n b : Nat} (h0 : 0 < b) (h : n < 2 ^ b) (h9 : b ≤ 9000) : n.log2 < 9000 := Nat.lt_of_lt_of_le (PySem.Flt.log2_lt_of h0 h) h9
theorem pss_guard {X : Cx} {b : List Stmt} {t : TS} {P : Prop} (h : P → PSs X b t) : PSs X b (fun D σ H => P ∧ t D σ H) :=
  ⟨fun pins s σ H D I q => (h q.1).run pins s σ H D I q.2⟩
section
variable {P : Program} {w : World} {K : PySem.W.Frag} {mg : Str → Option Value} {base : Heap}
/-! ### an own exception over ValueError whose __init__ says super().__init__(text); self.x = x -/
section
variable {A : Around}
/-- the built-in __init__ bound to the exception at e is called -/
theorem sup_call {hp : Heap} {gs : Array GenState} {dr : Drawn} {tk : Nat} {os : OsState} {Ex : Value → Shared → Prop} {nm qn : Str} {C N u e t1 : Addr} {bs bm : List Value} {hd : Bool} {sn : List Str} {sb : List Value} {ab : Bool} {co : Option Bool} {dd : Option Addr} {k0 k1 k2 k3 k5 : Option Value} {us : List Value} {Q : Value → Shared → Prop}
    (hbm : PySem.HandSPX.refsVE bm = true) (cC : hp.get? C = some (excClassObj nm qn C N bs bm hd sn sb ab co dd k0 k1 k2 k3 k5 "ValueError.__new__"))
    (ce : hp.get? e = some ({ cls := .ref C, dict := none, data := .fields #[.ref t1, .none, .none, .none, .bool false, .none] } : Obj)) (cu : hp.get? u = some (PySem.W.kxs_mw "ValueError.__init__" e)) (hl : us.length ≤ sizeLine)
    (fin : ∀ h' t2, (∀ b o, b ≠ e → hp.get? b = some o → h'.get? b = some o) → h'.get? e = some ({ cls := .ref C, dict := none, data := .fields #[.ref t2, .none, .none, .none, .bool false, .none] } : Obj) → Q .none ⟨h', gs, dr, tk, os⟩) :
    wpAny (model P w) A (call (.ref u) us) Q Ex ⟨hp, gs, dr, tk, os⟩ := by
  refine wpAny_call (codeAny_of_tree ?_)
  show wpAny (model P w) A.in1 (callAny (.ref u) ⟨us, []⟩) _ _ ⟨hp, gs, dr, tk, os⟩
  simp only [callAny]
  refine wpAny_bind (wpAny_load cu ?_)
  have e1 : (Value.type "method-wrapper" == Value.type "method" || Value.type "method-wrapper" == Value.type "builtin_function_or_method" || Value.type "method-wrapper" == Value.type "method-wrapper") = true := by decide
  simp only [PySem.W.kxs_mw, e1, if_true]
  refine PySem.W.KFB.if_so (by decide) ?_
  refine wpAny_bind (PySem.W.check_bound_init PySem.F.excBase_ValueError.toExcCallFacts cC ce rfl ?_)
  refine wpAny_bind (wpAny_pure (wpAny_pure ?_))
  refine ⟨plainId_quiet PySem.F.excBase_ValueError.init.plain _, codeAny_builtin PySem.F.excBase_ValueError.initEntry ?_⟩
  refine PySem.W.exc_init_tree (cls := .ref C) (t0 := t1) (dv := none) (c2 := .none) (c3 := .none) (b4 := .bool false) ce hl fun h' k hx _ => fin h' _ k hx
end
/-- what the written part says of such a class: its def at f, the def's code object at cda, the cell that holds the class at cc -/
structure SupC (fl : Str) (K : PySem.W.Frag) (C f : Addr) (fd : FuncData) (name qual : Str) (st : Stmt) : Prop where
  T : OexC K C
  iC : PySem.W.findIn K (.ref C) "__init__" = some (some (.ref f))
  tI : PySem.W.typeIn K (.ref f) = some (.type "function")
  lk : ∃ (oc : Value) (od an : Option Addr) (osl : Array (Option Value)) (kV doc pm ct : Value) (cda cc : Addr),
    fd = PySem.W.fnX name qual (defArgs st) (defBody st) (defScope st) [("__class__", cc)] .none kV doc pm an (.ref cda) ct ∧ K.lookup f = some ⟨oc, od, .func fd, osl⟩ ∧ PySem.W.codeIn K (.ref cda) qual = true ∧
    (∃ (ccl : Value) (cdd : Option Addr) (vs : Array Value) (ccs : Array (Option Value)) (file : Str) (tf : Tok), K.lookup cda = some ⟨ccl, cdd, .fields vs, ccs⟩ ∧ vs[2]? = some (.str file tf) ∧ (fl == file) = true) ∧
    (∃ (cl : Value) (cld : Option Addr) (csl : Array (Option Value)), K.lookup cc = some ⟨cl, cld, .cell (some (.ref C)), csl⟩)
  clsC : ∃ cd, PySem.W.clsIn K C = some cd
  selfC : PySem.W.mroIn K C (.ref C) = some true
  third : PySem.W.nsIn K cStatics "thirdparty.any" = some none
  sup : PySem.W.ks_superIn K C C "__init__" = some (some (.builtin "ValueError.__init__"))
  ve : PySem.W.subIn K (.ref C) (.type "ValueError") = some true
structure SupP (fl : Str) (P : Program) : Prop where
  file : P.main.file = fl
  top : (P.main.scope.names.lookup ("super" : Str)).isSome = false
/-- its promise -/
def sp_sup (C : Addr) (x : Str) : Sp := fun vs H Q _ => ∃ (a : Addr) (v : V), vs = [.ref a, v] ∧ H a = some (exo a C none) ∧ ∀ dx, H dx = none → dx ≠ a → Q .non (upd (upd H dx (exd dx [(x, v)])) a (exo a C (some dx)))
abbrev supBody (text x nm sf : Str) (p0 p1 p2 p3 p4 p5 p6 p7 p8 p9 : Pos) : List Stmt :=
  [.Expr (.Call (.Attribute (.Call (.Name "super" p0) [] [] p1) "__init__" p2) [.Constant (.str text) 0 p3] [] p4) p5, .Assign [.Attribute (.Name "self" p6) nm p7] (.Name x p8) p9]
def SupEv (text : Str) (p0 p1 p2 p3 p4 : Pos) : Prop := ∀ env : PySem.Env, eval (.Call (.Attribute (.Call (.Name "super" p0) [] [] p1) "__init__" p2) [.Constant (.str text) 0 p3] [] p4) env = (do
  let ov ← attributeBase (.Call (.Name "super" p0) [] [] p1) "__init__" env (eval (.Call (.Name "super" p0) [] [] p1) env)
  standAt p2.atName
  let (f, first) ← holding [ov] (getMethod ov "__init__" (do return (← importBound (.Call (.Name "super" p0) [] [] p1) env).getD true))
  callWith p4 f first (backTo p4 (starEach [.Constant (.str text) 0 p3] env)) [])
theorem lk1 {x y : Str} {c d : Addr} (h : List.lookup y [(x, c)] = some d) : d = c := by
  cases e : y == x with
  | true => rw [List.lookup, e] at h; exact (Option.some.inj h).symm
  | false => rw [List.lookup, e] at h; cases h
theorem lk2 {x y : Str} {c d : Addr} (h : List.lookup y [(x, c)] = some d) : y = x := by
  cases e : y == x with
  | true => exact beq_iff_eq.mp e
  | false => rw [List.lookup, e] at h; cases h
theorem super_ld {X : Cx} {pins : List (Addr × Obj)} {σ : L2.St} {H : Hp} {s : Shared} {A : Around} {Ex : Value → Shared → Prop} {Q : Value → Shared → Prop} (I : Inv X pins σ H s) (hg : Gl X "super") (hm : X.mg "super" = none) (h : Q (.type "super") s) :
    wpAny (model X.prog X.w) A (loadName X.env "super") Q Ex s := by
  obtain ⟨mb, h1, h2⟩ := I.mod.blt
  refine PySem.W.ks_loadName_global I.ok.kind hg (Calls.loadGlobal_builtin (mg := X.mg) (mb := mb) ?_ hm ?_ ((h2 _ (by decide)).trans PyProof.Rows.Boot.«super») h)
  · rw [I.ok.glob]
    exact I.mod.glob.keeps I.bk
  · rw [I.ok.blt]
    exact h1.keeps I.bk
theorem fn_sup {CX : CXT} {k : Nat} {C f : Addr} {x qual : Str} {st : Stmt} {fd : FuncData} {nm text : Str} {p0 p1 p2 p3 p4 p5 p6 p7 p8 p9 : Pos} {fl : Str} (su : SupP fl P) (F : SupC fl K C f fd x qual st) (hb : defBody st = supBody text nm nm "self" p0 p1 p2 p3 p4 p5 p6 p7 p8 p9)
    (S : NdefX.NScope ["self", nm, "__class__"] ["self", nm] ["__class__"] (defScope st)) (hd1 : (nm == ("__debug__" : Str)) = false) (hd2 : (nm == ("__classdict__" : Str)) = false) (hno : PySem.W.findIn K (.ref C) nm = some none) (ms : mg "super" = none) (hks : (defScope st).names.lookup ("super" : Str) = some .globalImplicit)
    (hev : SupEv text p0 p1 p2 p3 p4)
    (hp : ((defArgs st).posonlyargs ++ (defArgs st).args).head?.map (·.arg) = some "self") :
    FnOk P w K mg base CX (k + 1) f fd ["self", nm] (sp_sup C nm) := by
  obtain ⟨oc, od, an, osl, kV, doc, pm, ct, cda, cc, rfl, lk, hcd, ⟨ccl, cdd, vs0, ccs, file, tf, lc, hvs, hfile⟩, ⟨cl, cld, csl, lcell⟩⟩ := F.lk
  refine ⟨fun vs H Q E ⟨a, v, h, _⟩ => by rw [h]; rfl, fun A outer s H args us vs Q E hr e0 hbd r hsp => ?_⟩
  have KX : K.In s.heap := e0.mod.kin.keeps fun b o e => (e0.bs b o e).1
  have lim : s.heap.NoLimit := e0.mod.nolimit.keeps fun b o e => (e0.bs b o e).1
  obtain ⟨a, v, rfl, ha, hq⟩ := hsp
  have hloc : ∀ y ∈ [("self" : Str), nm].zip us, (defScope st).names.lookup y.1 = some .local := fun ⟨n, u⟩ hy => S.par n (List.of_mem_zip hy).1
  refine PySem.ks_codeAny_call_defAt (fd := PySem.W.fnX x qual (defArgs st) (defBody st) (defScope st) [("__class__", cc)] .none kV doc pm an (.ref cda) ct) (body := defBody st) hr.depth (KX _ _ lk) rfl lim (PySem.W.codeRec_of KX hcd) rfl hbd S.nocell hloc (fun h₁ hns hk => ?_) S.co S.gen S.kind
  have C0 : NdefX.CellsAt [("__class__", cc)] ["__class__"] [none] s.heap H := by
    refine ⟨rfl, fun y c e => ?_, fun y z c e1 e2 => ?_, fun i y e => ?_⟩
    · have e' := lk1 e
      subst e'
      exact ⟨(e0.bs _ _ (e0.mod.kin _ _ lcell)).2, _, _, KX _ _ lcell, rfl⟩
    · exact (lk2 e1).trans (lk2 e2).symm
    · match i, e with
      | 0, e =>
        cases e
        exact ⟨cc, by simp [List.lookup], fun v hv => by cases hv⟩
      | i + 1, e => cases e
  have I := NdefX.inv_startN (CX := CX) (w := w) (F := ⟨x, qual, defArgs st, defBody st, defScope st, [("__class__", cc)], cda⟩) (f := f) (E := E) (tk := s.toks + ([("self" : Str), nm].zip us).length) S hr.hd e0 rfl r C0 hns hk
  have hkc : (defScope st).names.lookup ("__class__" : Str) = some .free := S.frk _ List.mem_cons_self
  have hks2 : (defScope st).names.lookup ("self" : Str) = some .local := S.par _ List.mem_cons_self
  obtain ⟨ar, har, earg⟩ : ∃ ar, ((defArgs st).posonlyargs ++ (defArgs st).args).head? = some ar ∧ ar.arg = "self" := by
    cases q : ((defArgs st).posonlyargs ++ (defArgs st).args).head? with
    | none => rw [q] at hp; cases hp
    | some ar => rw [q] at hp; exact ⟨ar, rfl, Option.some.inj hp⟩
  obtain ⟨cdC, hcdC⟩ := F.clsC
  obtain ⟨oD, hD1, hD2⟩ : ∃ oD, K.lookup C = some oD ∧ oD.data = .cls cdC := by
    have z := hcdC
    unfold PySem.W.clsIn at z
    split at z
    · rename_i ho
      cases z
      exact ⟨_, ho, rfl⟩
    · cases z
  rw [hb]
  refine PySem.ks_wpAt_execs_cons (PySem.ks_wpAt_Expr_any (PySem.ks_wpAt_MethodCall ?_ (hev _)) I.quiet)
  have K1 : K.In h₁ := KX.keeps hk
  obtain ⟨t1, hoe⟩ := exo_at I.hok ha
  refine PySem.ks_wpAt_super_base (f := f) (cc := cda) hks hkc rfl rfl (K1 _ _ lk) rfl har rfl (K1 _ _ lc) rfl hvs (by rw [su.file]; exact hfile) su.top ?_
  refine super_ld I hks ms ⟨rfl, ?_⟩
  refine wpAny_loadName_free (c := cc) (v := .ref C) S.kind hkc (by simp [callEnv, newEnv, List.lookup]) ⟨_, K1 _ _ lcell, rfl⟩ ?_
  rw [earg]
  obtain ⟨u0, uv, rfl, rfl, rv⟩ : ∃ u0 uv, us = [u0, uv] ∧ u0 = .ref a ∧ RelV v uv := by
    cases r with
    | cons r0 r1 =>
      cases r1 with
      | cons r2 r3 =>
        cases r3
        exact ⟨_, _, rfl, r0, r2⟩
  have hne : ¬ ("self" : Str) = nm := fun z => by
    have q := S.nd
    rw [z] at q
    simp at q
  refine wpAny_loadName_local (v := .ref a) S.kind hks2 hns ?_ ?_
  · show List.lookup ("self" : Str) [(nm, uv), (("self" : Str), Value.ref a)] = some (.ref a)
    have e0 : (("self" : Str) == nm) = false := by simpa using hne
    simp [List.lookup, e0]
  refine PySem.ks_wpAny_isType_cls (K1 _ _ hD1) hD2 ⟨rfl, ?_⟩
  have nc : ∀ c, ({ cls := .ref C, dict := none, data := .fields #[.ref t1, .none, .none, .none, .bool false, .none] } : Obj).data ≠ .cls c := fun c z => by cases z
  refine PySem.ks_wpAny_call_super (K1 _ _ hD1) hD2 hoe rfl nc (PySem.W.looks_mroIn K1 F.selfC) fun h2 e2 k2 => ?_
  have K2 : K.In h2 := K1.keeps k2
  have I2 := I.kept (t' := s.toks + ([("self" : Str), nm].zip [Value.ref a, uv]).length) k2
  have J2 : PySem.W.InstAt h2 a ({ cls := .ref C, dict := none, data := .fields #[.ref t1, .none, .none, .none, .bool false, .none] } : Obj) C none := ⟨k2 _ _ hoe, rfl, rfl, trivial⟩
  have hsup : PySem.W.alongIn K "__init__" ((cdC.mro.dropWhile (· != .ref C)).drop 1) = some (some (.builtin "ValueError.__init__")) := by
    have z := F.sup
    unfold PySem.W.ks_superIn at z
    rw [hcdC] at z
    exact z
  refine PySem.W.kxs_getMethod PySem.W.kxs_ValueError e2 (PySem.W.looks_opaque K2 F.third) (l₀ := cdC.mro) (fun A' Q' E' s' k' q' => wpAny_bind ((PySem.W.looks_clsIn K2 hcdC) A' _ E' s' k' (wpAny_pure q'))) rfl K2 hsup (J2.type.andThen (PySem.W.looks_subIn K2 F.ve)) (PySem.W.ks_ne K2 J2 hcdC) (by decide) ?_
  have k3 : ∀ b o, h2.get? b = some o → (h2.push (PySem.W.kxs_mw "ValueError.__init__" a)).get? b = some o := fun b o e => Heap.get?_push_of_some _ e
  have I3 := I2.kept (t' := s.toks + ([("self" : Str), nm].zip [Value.ref a, uv]).length + 1) k3
  have eu : (h2.push (PySem.W.kxs_mw "ValueError.__init__" a)).get? h2.objs.size = some (PySem.W.kxs_mw "ValueError.__init__" a) := Heap.get?_push_size _ rfl
  have I4 := I3.pins_of (pins' := [(h2.objs.size, PySem.W.kxs_mw "ValueError.__init__" a)]) fun p hp => by
    rw [List.mem_singleton.mp hp]
    exact ⟨eu, I2.hok.fresh (Nat.le_refl _), fun z => Nat.lt_irrefl _ (z ▸ I2.lt), I2.nofs (Nat.le_refl _), fun v z => by cases z⟩
  refine PySem.W.kxs_callWith (i := "ValueError.__init__") (x := a) (by rfl) ?_
  have hpa : PA (NdefX.ncx CX P w K mg base ["self", nm, "__class__"] ⟨x, qual, defArgs st, defBody st, defScope st, [("__class__", cc)], cda⟩ f A outer s H E) [.Constant (.str text) 0 p3] (tCons (tC (.str text)) tNil) := pa_cons pe_str pa_nil
  refine Calls.evalArgs_plain (wpAny_mono (hpa.run p4 _ _ _ H (fun vs H' => vs = [.str text] ∧ H' = H) I4 ?_) ?_ fun e s' hs => ?_)
  · exact ⟨rfl, rfl⟩
  rintro us1 s1 ⟨vs1, H1, I5, r1, rfl, rfl⟩
  have P5 := I5.pin (h2.objs.size, PySem.W.kxs_mw "ValueError.__init__" a) (List.mem_append_right _ List.mem_cons_self)
  refine ⟨P5.1, ?_⟩
  obtain ⟨nmC, qC, NC, bs, bm, sn, sub, ab, col, dd, k0, k1, k2', k3', k5, hC, hbm⟩ := F.T.cls
  obtain ⟨t5, hoe5⟩ := exo_at I5.hok ha
  obtain ⟨hp5, g5, d5, tk5, os5⟩ := s1
  refine sup_call hbm (I5.kIn _ _ hC) hoe5 P5.1 (by rw [List.nil_append, ← Paired.length r1, sizeLine_eq]; show 1 ≤ _; omega) fun h6 t6 k6 e6 => ?_
  have J6 := I5.write (t' := tk5) (x := a) (e := a) (o := exo a C none) (by rw [ha]; exact True.intro) (.inl rfl) k6 ⟨_, e6⟩ (exo_ok e6)
  have eH : upd H1 a (exo a C none) = H1 := by
    funext b
    by_cases hb' : b = a
    · rw [hb', upd_same, ha]
    · rw [upd_ne hb']
  rw [eH] at J6
  have J7 := J6.unpinned (pins := [])
  have hps : PSs (NdefX.ncx CX P w K mg base ["self", nm, "__class__"] ⟨x, qual, defArgs st, defBody st, defScope st, [("__class__", cc)], cda⟩ f A outer s H1 E) [.Assign [.Attribute (.Name "self" p6) nm p7] (.Name nm p8) p9] (tOst K nm (tVar 0) (tVar 1)) := by
    exact pss_one (ps_ost (pv 0 rfl (.inl hks2) (by decide) (by decide)) (pv 1 rfl (.inl (S.par _ (List.mem_cons_of_mem _ List.mem_cons_self))) hd1 hd2))
  refine PySem.wpAt_of_wpAny (wpAny_mono (hps.run [] _ _ H1 { nx := fun _ H' => Q .non H', rt := Q } J7 ?_) (fun fl s' hs => ?_) fun e s' hs => hs)
  · refine ⟨v, rfl, ?_⟩
    exact ⟨.ref a, rfl, a, C, rfl, F.T, hno, .inl ⟨ha, hq⟩⟩
  · cases fl with
    | ret u =>
      obtain ⟨v', σ', H', J, rv', q⟩ := hs
      exact ⟨v', H', J.os, J.bare, J.base, J.hok, rv', q⟩
    | next =>
      obtain ⟨σ', H', J, q⟩ := hs
      exact ⟨V.non, H', J.os, J.bare, J.base, J.hok, rfl, q⟩
    | brk =>
      obtain ⟨_, _, _, q⟩ := hs
      exact False.elim q
    | cont =>
      obtain ⟨_, _, _, q⟩ := hs
      exact False.elim q
  · exact hs
theorem sup_heap {H : Hp} {a d : Addr} {o1 o2 o3 o : HO} (ha : H a = none) (h : d ≠ a) : upd (del (upd (upd (upd H a o1) d o2) a o3) a) d o = upd H d o := by
  funext b
  by_cases hd : b = d
  · rw [hd, upd_same, upd_same]
  · rw [upd_ne hd, upd_ne hd]
    by_cases hb : b = a
    · rw [hb, del_same, ha]
    · rw [del_ne hb, upd_ne hb, upd_ne hd, upd_ne hb]
/-- what the head says of it -/
def supObs (K : PySem.W.Frag) (C : Addr) : He.FnV := match K.lookup (He.ma K C "__init__") with
  | some ⟨_, _, .func g, _⟩ => some (g.name, g.qualname, g.params, g.body, g.scope, g.globals, g.closure.map fun p => (p.1, 0), g.defaults, g.builtins)
  | _ => none
def supB (fl : Str) (K : PySem.W.Frag) (C : Addr) (q : Str) : Bool := match K.lookup (He.ma K C "__init__") with
  | some ⟨_, _, .func g, _⟩ => PySem.W.codeIn K g.code q && ((match g.code with
    | .ref cda => (match K.lookup cda with
      | some ⟨_, _, .fields vs, _⟩ => (match (vs[2]? : Option Value) with
        | some (Value.str file _) => fl == file
        | _ => false)
      | _ => false)
    | _ => false) && (match g.closure with
    | [(_, cc)] => (match K.lookup cc with
      | some ⟨_, _, .cell (some (.ref D)), _⟩ => decide (D = C)
      | _ => false)
    | _ => false))
  | _ => false
theorem sup_mk {fl x q : Str} {C : Addr} {ar : Arguments} {bd : List Stmt} {sc : Scope} (e : supObs K C = (some (x, q, ar, .stmts bd, sc, mainGlobals, [("__class__", 0)], .none, builtinsNs) : He.FnV)) (c : supB fl K C q = true) :
    ∃ (oc : Value) (od an : Option Addr) (osl : Array (Option Value)) (kV doc pm ct : Value) (cda cc : Addr), K.lookup (He.ma K C "__init__") = some ⟨oc, od, .func (PySem.W.fnX x q ar bd sc [("__class__", cc)] .none kV doc pm an (.ref cda) ct), osl⟩ ∧ PySem.W.codeIn K (.ref cda) q = true ∧
    (∃ (ccl : Value) (cdd : Option Addr) (vs : Array Value) (ccs : Array (Option Value)) (file : Str) (tf : Tok), K.lookup cda = some ⟨ccl, cdd, .fields vs, ccs⟩ ∧ vs[2]? = some (.str file tf) ∧ (fl == file) = true) ∧
    (∃ (cl : Value) (cld : Option Addr) (csl : Array (Option Value)), K.lookup cc = some ⟨cl, cld, .cell (some (.ref C)), csl⟩) := by
  unfold supObs at e
  unfold supB at c
  cases q0 : K.lookup (He.ma K C "__init__") with
  | none => rw [q0] at c; cases c
  | some o =>
    obtain ⟨oc, od, dt, osl⟩ := o
    rw [q0] at c e
    cases dt with
    | func g =>
      obtain ⟨n1, n2, n3, n4, n5, n6, n7, n8, n9, n10, n11, n12, n13, n14, n15⟩ := g
      simp only [Option.some.injEq, Prod.mk.injEq] at e
      obtain ⟨h1, h2, h3, h4, h5, h6, h7, h8, h9⟩ := e
      subst h1 h2 h3 h4 h5 h6 h8 h9
      rw [Bool.and_eq_true, Bool.and_eq_true] at c
      obtain ⟨c1, c2, c3⟩ := c
      cases n7 with
      | nil => exact absurd (congrArg List.length h7) (by simp)
      | cons p l =>
        cases l with
        | cons _ _ => exact absurd (congrArg List.length h7) (by simp)
        | nil =>
          obtain ⟨y, cc⟩ := p
          have hy : y = "__class__" := congrArg Prod.fst (List.cons.inj h7).1
          subst hy
          cases n13 with
          | ref cda =>
            refine ⟨oc, od, n12, osl, n9, n10, n11, n14, cda, cc, rfl, c1, ?_, ?_⟩
            · dsimp only at c2
              split at c2
              · rename_i ccl cdd vs ccs hl
                split at c2
                · rename_i file tf hv
                  exact ⟨ccl, cdd, vs, ccs, file, tf, hl, hv, c2⟩
                · cases c2
              · cases c2
            · dsimp only at c3
              split at c3
              · rename_i cl cld D csl hl
                have := of_decide_eq_true c3
                subst this
                exact ⟨cl, cld, csl, hl⟩
              · cases c3
          | _ => cases c2
    | _ => cases c
def oexB (K : PySem.W.Frag) (C : Addr) : Bool := match K.lookup C with
  | some ⟨.type "type", _, .cls cd, sl⟩ => (match cd.mro, sl.toList with
    | .ref D :: bm, [_, _, _, _, some (.builtin n), _] => decide (D = C) && (decide (n = "ValueError.__new__") && (!cd.hasDel && (cd.hasDict && PySem.HandSPX.refsVE bm)))
    | _, _ => false)
  | _ => false
theorem oexB_ok {C : Addr} (h : oexB K C = true) : ∃ nm q N bs bm sn sub ab col dd k0 k1 k2 k3 k5, K.lookup C = some (excClassObj nm q C N bs bm true sn sub ab col dd k0 k1 k2 k3 k5 "ValueError.__new__") ∧ PySem.HandSPX.refsVE bm = true := by
  unfold oexB at h
  split at h
  · rename_i dd cd sl ho
    split at h
    · rename_i D bm k0 k1 k2 k3 n k5 hm hs
      simp only [Bool.and_eq_true, decide_eq_true_eq, Bool.not_eq_true'] at h
      obtain ⟨hD, hn, hdel, hdd, hb⟩ := h
      subst hD hn
      obtain ⟨nm, bs, mro, ns, qn, hd, sn, sub, ab, col, de⟩ := cd
      dsimp only at hm hdel hdd
      subst hm hdel hdd
      obtain ⟨l⟩ := sl
      have hs : l = [k0, k1, k2, k3, some (.builtin "ValueError.__new__"), k5] := hs
      subst hs
      exact ⟨nm, qn, ns, bs, bm, sn, sub, ab, col, dd, k0, k1, k2, k3, k5, ho, hb⟩
    · cases h
  · cases h
end
def topS (i : Nat) : Stmt := PySem.Challenge.pw_postmead_k29_tables_of_pairs.main.body.getD i (.Pass ⟨0, 0, 0, 0⟩)
abbrev s_lowest : Stmt := topS 11
theorem sc_lowest : FnScope ["top", "bottom", "divisor"] ["top", "bottom"] (defScope s_lowest) := ⟨rfl, rfl, rfl, by decide +kernel, rfl, by decide +kernel, by decide +kernel⟩
abbrev s_less : Stmt := topS 12
theorem sc_less : FnScope ["one", "other"] ["one", "other"] (defScope s_less) := ⟨rfl, rfl, rfl, by decide +kernel, rfl, by decide +kernel, by decide +kernel⟩
abbrev s_times : Stmt := topS 13
theorem sc_times : FnScope ["one", "other"] ["one", "other"] (defScope s_times) := ⟨rfl, rfl, rfl, by decide +kernel, rfl, by decide +kernel, by decide +kernel⟩
abbrev s_is_part : Stmt := topS 14
theorem sc_is_part : FnScope ["one"] ["one"] (defScope s_is_part) := ⟨rfl, rfl, rfl, by decide +kernel, rfl, by decide +kernel, by decide +kernel⟩
abbrev s_is_length : Stmt := topS 15
theorem sc_is_length : FnScope ["one"] ["one"] (defScope s_is_length) := ⟨rfl, rfl, rfl, by decide +kernel, rfl, by decide +kernel, by decide +kernel⟩
abbrev s_looked : Stmt := topS 17
theorem sc_looked : FnScope ["table", "n", "row", "post", "i", "k"] ["table"] (defScope s_looked) := ⟨rfl, rfl, rfl, by decide +kernel, rfl, by decide +kernel, by decide +kernel⟩
abbrev s_is_twin_length : Stmt := topS 18
theorem sc_is_twin_length : FnScope ["table", "i", "k"] ["table", "i", "k"] (defScope s_is_twin_length) := ⟨rfl, rfl, rfl, by decide +kernel, rfl, by decide +kernel, by decide +kernel⟩
abbrev s_broken : Stmt := topS 19
theorem sc_broken : FnScope ["table", "n", "c", "d"] ["table"] (defScope s_broken) := ⟨rfl, rfl, rfl, by decide +kernel, rfl, by decide +kernel, by decide +kernel⟩
abbrev s_keeps_rule : Stmt := topS 20
theorem sc_keeps_rule : FnScope ["table", "a", "b", "c", "d", "top", "bottom", "one_top", "one_bottom", "other_top", "other_bottom", "both"] ["table", "a", "b", "c", "d"] (defScope s_keeps_rule) := ⟨rfl, rfl, rfl, by decide +kernel, rfl, by decide +kernel, by decide +kernel⟩
abbrev s_multiplied : Stmt := topS 21
theorem sc_multiplied : FnScope ["one", "other"] ["one", "other"] (defScope s_multiplied) := ⟨rfl, rfl, rfl, by decide +kernel, rfl, by decide +kernel, by decide +kernel⟩
abbrev s_of_pairs : Stmt := topS 22
theorem sc_of_pairs : FnScope ["rows", "n", "made", "i", "k", "length", "_"] ["rows"] (defScope s_of_pairs) := ⟨rfl, rfl, rfl, by decide +kernel, rfl, by decide +kernel, by decide +kernel⟩
abbrev s_spread : Stmt := topS 23
theorem sc_spread : FnScope ["one", "other"] ["one", "other"] (defScope s_spread) := ⟨rfl, rfl, rfl, by decide +kernel, rfl, by decide +kernel, by decide +kernel⟩
abbrev s__law_flow : Stmt := topS 25
theorem sc__law_flow : FnScope ["_law_script", "_law_many_here", "_law_great", "_law_row", "_law_k", "_law_cell", "_law_mixed"] ["_law_script", "_law_many_here"] (defScope s__law_flow) := ⟨rfl, rfl, rfl, by decide +kernel, rfl, by decide +kernel, by decide +kernel⟩
abbrev s__law_whole : Stmt := topS 26
theorem sc__law_whole : FnScope ["_law_found"] ["_law_found"] (defScope s__law_whole) := ⟨rfl, rfl, rfl, by decide +kernel, rfl, by decide +kernel, by decide +kernel⟩
abbrev s__law_low : Stmt := topS 27
theorem sc__law_low : FnScope ["_law_top", "_law_bottom", "_law_one", "_law_other"] ["_law_top", "_law_bottom"] (defScope s__law_low) := ⟨rfl, rfl, rfl, by decide +kernel, rfl, by decide +kernel, by decide +kernel⟩
abbrev s__law_add : Stmt := topS 28
theorem sc__law_add : FnScope ["_law_one", "_law_other"] ["_law_one", "_law_other"] (defScope s__law_add) := ⟨rfl, rfl, rfl, by decide +kernel, rfl, by decide +kernel, by decide +kernel⟩
abbrev s__law_mul : Stmt := topS 29
theorem sc__law_mul : FnScope ["_law_one", "_law_other"] ["_law_one", "_law_other"] (defScope s__law_mul) := ⟨rfl, rfl, rfl, by decide +kernel, rfl, by decide +kernel, by decide +kernel⟩
abbrev s__law_part : Stmt := topS 30
theorem sc__law_part : FnScope ["_law_found"] ["_law_found"] (defScope s__law_part) := ⟨rfl, rfl, rfl, by decide +kernel, rfl, by decide +kernel, by decide +kernel⟩
abbrev s__law_size : Stmt := topS 31
theorem sc__law_size : FnScope ["_law_one"] ["_law_one"] (defScope s__law_size) := ⟨rfl, rfl, rfl, by decide +kernel, rfl, by decide +kernel, by decide +kernel⟩
abbrev s__law_many : Stmt := topS 32
theorem sc__law_many : FnScope ["_law_row"] ["_law_row"] (defScope s__law_many) := ⟨rfl, rfl, rfl, by decide +kernel, rfl, by decide +kernel, by decide +kernel⟩
abbrev s__law_spread : Stmt := topS 33
theorem sc__law_spread : FnScope ["_law_one", "_law_other", "_law_back"] ["_law_one", "_law_other"] (defScope s__law_spread) := ⟨rfl, rfl, rfl, by decide +kernel, rfl, by decide +kernel, by decide +kernel⟩
abbrev s__law_tuple : Stmt := topS 34
theorem sc__law_tuple : FnScope ["_law_found", "_law_many_here", "_law_one"] ["_law_found", "_law_many_here"] (defScope s__law_tuple) := ⟨rfl, rfl, rfl, by decide +kernel, rfl, by decide +kernel, by decide +kernel⟩
abbrev s__law_parts : Stmt := topS 35
theorem sc__law_parts : FnScope ["_law_found", "_law_due", "_law_k"] ["_law_found", "_law_due"] (defScope s__law_parts) := ⟨rfl, rfl, rfl, by decide +kernel, rfl, by decide +kernel, by decide +kernel⟩
abbrev s__law_table : Stmt := topS 36
theorem sc__law_table : FnScope ["_law_found", "_law_due", "_law_k"] ["_law_found", "_law_due"] (defScope s__law_table) := ⟨rfl, rfl, rfl, by decide +kernel, rfl, by decide +kernel, by decide +kernel⟩
abbrev s__law_drawn : Stmt := topS 37
theorem sc__law_drawn : FnScope ["_law_n", "_law_row", "_law_way", "_law_rows", "_law_slope", "_law_k", "_law_first", "_law_one"] ["_law_n", "_law_row", "_law_way"] (defScope s__law_drawn) := ⟨rfl, rfl, rfl, by decide +kernel, rfl, by decide +kernel, by decide +kernel⟩
abbrev s__law_bad : Stmt := topS 38
theorem sc__law_bad : FnScope ["_law_rows", "_law_i", "_law_k"] ["_law_rows"] (defScope s__law_bad) := ⟨rfl, rfl, rfl, by decide +kernel, rfl, by decide +kernel, by decide +kernel⟩
abbrev s_law : Stmt := topS 39
theorem sc_law : FnScope ["_law_script", "_law_row", "_law_n", "_law_rows", "_law_at", "_law_bad_here", "_law_handed", "_law_found", "_law_two", "_law_refused", "e", "_law_due", "_law_i", "_law_k"] ["_law_script"] (defScope s_law) := ⟨rfl, rfl, rfl, by decide +kernel, rfl, by decide +kernel, by decide +kernel⟩
abbrev s_BadPairs___init__ : Stmt := inClass (topS 6) 0
abbrev flM : Str := PySem.Challenge.pw_postmead_k29_tables_of_pairs.main.file
structure Env (K : PySem.W.Frag) (mg : Str → Option Value) where
  C_MeadError : Addr
  c_MeadError : mg "MeadError" = some (.ref C_MeadError)
  x_MeadError : PySem.W.excIn K C_MeadError [.type "ValueError", .type "Exception", .type "BaseException", .type "object"] "ValueError.__new__" = true
  k_MeadError : PySem.W.keepIn K (.ref C_MeadError) = true
  bs_MeadError : PySem.W.subIn K (.ref C_MeadError) (.type "BaseException") = some true
  ty_MeadError : PySem.W.typeIn K (.ref C_MeadError) = some (.type "type")
  e_MeadError : ExcC K C_MeadError
  C_NoFraction : Addr
  c_NoFraction : mg "NoFraction" = some (.ref C_NoFraction)
  x_NoFraction : PySem.W.excIn K C_NoFraction [.type "ValueError", .type "Exception", .type "BaseException", .type "object"] "ValueError.__new__" = true
  k_NoFraction : PySem.W.keepIn K (.ref C_NoFraction) = true
  bs_NoFraction : PySem.W.subIn K (.ref C_NoFraction) (.type "BaseException") = some true
  ty_NoFraction : PySem.W.typeIn K (.ref C_NoFraction) = some (.type "type")
  e_NoFraction : ExcC K C_NoFraction
  C_BadTable : Addr
  c_BadTable : mg "BadTable" = some (.ref C_BadTable)
  x_BadTable : PySem.W.excIn K C_BadTable [.type "ValueError", .type "Exception", .type "BaseException", .type "object"] "ValueError.__new__" = true
  k_BadTable : PySem.W.keepIn K (.ref C_BadTable) = true
  bs_BadTable : PySem.W.subIn K (.ref C_BadTable) (.type "BaseException") = some true
  ty_BadTable : PySem.W.typeIn K (.ref C_BadTable) = some (.type "type")
  e_BadTable : ExcC K C_BadTable
  C_BadPairs : Addr
  c_BadPairs : mg "BadPairs" = some (.ref C_BadPairs)
  a_BadPairs___init__ : Addr
  fd_BadPairs___init__ : FuncData
  sup_BadPairs : SupC flM K C_BadPairs a_BadPairs___init__ fd_BadPairs___init__ "__init__" "BadPairs.__init__" s_BadPairs___init__
  b_BadPairs___init__ : Binds K fd_BadPairs___init__ ["self", "two"] []
  na_BadPairs_two : PySem.W.findIn K (.ref C_BadPairs) "two" = some none
  xf_BadPairs : XfC K C_BadPairs
  k_BadPairs : PySem.W.keepIn K (.ref C_BadPairs) = true
  bs_BadPairs : PySem.W.subIn K (.ref C_BadPairs) (.type "BaseException") = some true
  ty_BadPairs : PySem.W.typeIn K (.ref C_BadPairs) = some (.type "type")
  e_BadPairs : ExcC K C_BadPairs
  sub_BadPairs_BadPairs : PySem.W.subIn K (.ref C_BadPairs) (.ref C_BadPairs) = some true
  a_lowest : Addr
  fd_lowest : FuncData
  F_lowest : Fun K "lowest" "lowest" s_lowest a_lowest fd_lowest
  g_lowest : mg "lowest" = some (.ref a_lowest)
  b_lowest : Binds K fd_lowest ["top", "bottom"] []
  a_less : Addr
  fd_less : FuncData
  F_less : Fun K "less" "less" s_less a_less fd_less
  g_less : mg "less" = some (.ref a_less)
  b_less : Binds K fd_less ["one", "other"] []
  a_times : Addr
  fd_times : FuncData
  F_times : Fun K "times" "times" s_times a_times fd_times
  g_times : mg "times" = some (.ref a_times)
  b_times : Binds K fd_times ["one", "other"] []
  a_is_part : Addr
  fd_is_part : FuncData
  F_is_part : Fun K "is_part" "is_part" s_is_part a_is_part fd_is_part
  g_is_part : mg "is_part" = some (.ref a_is_part)
  b_is_part : Binds K fd_is_part ["one"] []
  a_is_length : Addr
  fd_is_length : FuncData
  F_is_length : Fun K "is_length" "is_length" s_is_length a_is_length fd_is_length
  g_is_length : mg "is_length" = some (.ref a_is_length)
  b_is_length : Binds K fd_is_length ["one"] []
  a_looked : Addr
  fd_looked : FuncData
  F_looked : Fun K "looked" "looked" s_looked a_looked fd_looked
  g_looked : mg "looked" = some (.ref a_looked)
  b_looked : Binds K fd_looked ["table"] []
  a_is_twin_length : Addr
  fd_is_twin_length : FuncData
  F_is_twin_length : Fun K "is_twin_length" "is_twin_length" s_is_twin_length a_is_twin_length fd_is_twin_length
  g_is_twin_length : mg "is_twin_length" = some (.ref a_is_twin_length)
  b_is_twin_length : Binds K fd_is_twin_length ["table", "i", "k"] []
  a_broken : Addr
  fd_broken : FuncData
  F_broken : Fun K "broken" "broken" s_broken a_broken fd_broken
  g_broken : mg "broken" = some (.ref a_broken)
  b_broken : Binds K fd_broken ["table"] []
  a_keeps_rule : Addr
  fd_keeps_rule : FuncData
  F_keeps_rule : Fun K "keeps_rule" "keeps_rule" s_keeps_rule a_keeps_rule fd_keeps_rule
  g_keeps_rule : mg "keeps_rule" = some (.ref a_keeps_rule)
  b_keeps_rule : Binds K fd_keeps_rule ["table", "a", "b", "c", "d"] []
  a_multiplied : Addr
  fd_multiplied : FuncData
  F_multiplied : Fun K "multiplied" "multiplied" s_multiplied a_multiplied fd_multiplied
  g_multiplied : mg "multiplied" = some (.ref a_multiplied)
  b_multiplied : Binds K fd_multiplied ["one", "other"] []
  a_of_pairs : Addr
  fd_of_pairs : FuncData
  F_of_pairs : Fun K "of_pairs" "of_pairs" s_of_pairs a_of_pairs fd_of_pairs
  g_of_pairs : mg "of_pairs" = some (.ref a_of_pairs)
  b_of_pairs : Binds K fd_of_pairs ["rows"] []
  a_spread : Addr
  fd_spread : FuncData
  F_spread : Fun K "spread" "spread" s_spread a_spread fd_spread
  g_spread : mg "spread" = some (.ref a_spread)
  b_spread : Binds K fd_spread ["one", "other"] []
  a__law_flow : Addr
  fd__law_flow : FuncData
  F__law_flow : Fun K "_law_flow" "_law_flow" s__law_flow a__law_flow fd__law_flow
  g__law_flow : mg "_law_flow" = some (.ref a__law_flow)
  b__law_flow : Binds K fd__law_flow ["_law_script", "_law_many_here"] []
  a__law_whole : Addr
  fd__law_whole : FuncData
  F__law_whole : Fun K "_law_whole" "_law_whole" s__law_whole a__law_whole fd__law_whole
  g__law_whole : mg "_law_whole" = some (.ref a__law_whole)
  b__law_whole : Binds K fd__law_whole ["_law_found"] []
  a__law_low : Addr
  fd__law_low : FuncData
  F__law_low : Fun K "_law_low" "_law_low" s__law_low a__law_low fd__law_low
  g__law_low : mg "_law_low" = some (.ref a__law_low)
  b__law_low : Binds K fd__law_low ["_law_top", "_law_bottom"] []
  a__law_add : Addr
  fd__law_add : FuncData
  F__law_add : Fun K "_law_add" "_law_add" s__law_add a__law_add fd__law_add
  g__law_add : mg "_law_add" = some (.ref a__law_add)
  b__law_add : Binds K fd__law_add ["_law_one", "_law_other"] []
  a__law_mul : Addr
  fd__law_mul : FuncData
  F__law_mul : Fun K "_law_mul" "_law_mul" s__law_mul a__law_mul fd__law_mul
  g__law_mul : mg "_law_mul" = some (.ref a__law_mul)
  b__law_mul : Binds K fd__law_mul ["_law_one", "_law_other"] []
  a__law_part : Addr
  fd__law_part : FuncData
  F__law_part : Fun K "_law_part" "_law_part" s__law_part a__law_part fd__law_part
  g__law_part : mg "_law_part" = some (.ref a__law_part)
  b__law_part : Binds K fd__law_part ["_law_found"] []
  a__law_size : Addr
  fd__law_size : FuncData
  F__law_size : Fun K "_law_size" "_law_size" s__law_size a__law_size fd__law_size
  g__law_size : mg "_law_size" = some (.ref a__law_size)
  b__law_size : Binds K fd__law_size ["_law_one"] []
  a__law_many : Addr
  fd__law_many : FuncData
  F__law_many : Fun K "_law_many" "_law_many" s__law_many a__law_many fd__law_many
  g__law_many : mg "_law_many" = some (.ref a__law_many)
  b__law_many : Binds K fd__law_many ["_law_row"] []
  a__law_spread : Addr
  fd__law_spread : FuncData
  F__law_spread : Fun K "_law_spread" "_law_spread" s__law_spread a__law_spread fd__law_spread
  g__law_spread : mg "_law_spread" = some (.ref a__law_spread)
  b__law_spread : Binds K fd__law_spread ["_law_one", "_law_other"] []
  a__law_tuple : Addr
  fd__law_tuple : FuncData
  F__law_tuple : Fun K "_law_tuple" "_law_tuple" s__law_tuple a__law_tuple fd__law_tuple
  g__law_tuple : mg "_law_tuple" = some (.ref a__law_tuple)
  b__law_tuple : Binds K fd__law_tuple ["_law_found", "_law_many_here"] []
  a__law_parts : Addr
  fd__law_parts : FuncData
  F__law_parts : Fun K "_law_parts" "_law_parts" s__law_parts a__law_parts fd__law_parts
  g__law_parts : mg "_law_parts" = some (.ref a__law_parts)
  b__law_parts : Binds K fd__law_parts ["_law_found", "_law_due"] []
  a__law_table : Addr
  fd__law_table : FuncData
  F__law_table : Fun K "_law_table" "_law_table" s__law_table a__law_table fd__law_table
  g__law_table : mg "_law_table" = some (.ref a__law_table)
  b__law_table : Binds K fd__law_table ["_law_found", "_law_due"] []
  a__law_drawn : Addr
  fd__law_drawn : FuncData
  F__law_drawn : Fun K "_law_drawn" "_law_drawn" s__law_drawn a__law_drawn fd__law_drawn
  g__law_drawn : mg "_law_drawn" = some (.ref a__law_drawn)
  b__law_drawn : Binds K fd__law_drawn ["_law_n", "_law_row", "_law_way"] []
  a__law_bad : Addr
  fd__law_bad : FuncData
  F__law_bad : Fun K "_law_bad" "_law_bad" s__law_bad a__law_bad fd__law_bad
  g__law_bad : mg "_law_bad" = some (.ref a__law_bad)
  b__law_bad : Binds K fd__law_bad ["_law_rows"] []
  a_law : Addr
  fd_law : FuncData
  F_law : Fun K "law" "law" s_law a_law fd_law
  g_law : mg "law" = some (.ref a_law)
  b_law : Binds K fd_law ["_law_script"] []
  m_abs : mg "abs" = none
  m_all : mg "all" = none
  m_any : mg "any" = none
  m_bool : mg "bool" = none
  m_int : mg "int" = none
  m_isinstance : mg "isinstance" = none
  m_len : mg "len" = none
  m_list : mg "list" = none
  m_max : mg "max" = none
  m_min : mg "min" = none
  m_range : mg "range" = none
  m_super : mg "super" = none
  m_tuple : mg "tuple" = none
  tk_LEAST_POSTS : Tok
  m_LEAST_POSTS : mg "LEAST_POSTS" = some (.int 3 tk_LEAST_POSTS)
  tk_MOST_POSTS : Tok
  m_MOST_POSTS : mg "MOST_POSTS" = some (.int 12 tk_MOST_POSTS)
  o_NOUGHT : Addr
  m_NOUGHT : mg "NOUGHT" = some (.ref o_NOUGHT)
  l_NOUGHT : ∃ (oc : Option Addr) (n : Nat) (sl : Array (Option Value)) (t0 t1 : Tok), K.lookup o_NOUGHT = some ⟨.type "tuple", oc, .seq #[.int 0 t0, .int 1 t1] n, sl⟩
  m_combinations : mg "combinations" = some (.type "itertools.combinations")
  m_gcd : mg "gcd" = some (.builtin "math.gcd")
def nthM {α : Type} : List α → Nat → Option α
  | [], _ => none
  | a :: _, 0 => some a
  | _ :: l, n + 1 => nthM l n
theorem nthM_map {α β : Type} {u v : α → β} : ∀ {l : List α} {j : Nat} {d : α}, l.map u = l.map v → nthM l j = some d → u d = v d
  | a :: l, 0, d, e, h => by cases h; exact (List.cons.inj e).1
  | a :: l, j + 1, d, e, h => nthM_map (l := l) (List.cons.inj e).2 h
def tupNsL : List Value → List Int → Bool
  | [], [] => true
  | .int a _ :: l, b :: m => decide (a = b) && tupNsL l m
  | _, _ => false
def tupNs : Option Obj → List Int → Bool
  | some ⟨.type q, _, .seq a _, _⟩, ns => decide (q = "tuple") && tupNsL a.toList ns
  | _, _ => false
theorem tupNsL_one {l : List Value} {b : Int} {m : List Int} (h : tupNsL l (b :: m) = true) : ∃ t r, l = .int b t :: r ∧ tupNsL r m = true := by
  cases l with
  | nil => cases h
  | cons v r =>
    cases v with
    | int a t =>
      have h : (decide (a = b) && tupNsL r m) = true := h
      rw [Bool.and_eq_true, decide_eq_true_eq] at h
      exact ⟨t, r, by rw [h.1], h.2⟩
    | _ => cases h
theorem tupNsL_nil {l : List Value} (h : tupNsL l [] = true) : l = [] := by
  cases l with
  | nil => rfl
  | cons v r => cases v <;> cases h
theorem tupNs2_ok {o : Option Obj} {x y : Int} (h : tupNs o [x, y] = true) : ∃ (oc : Option Addr) (n : Nat) (sl : Array (Option Value)) (t0 t1 : Tok), o = some ⟨.type "tuple", oc, .seq #[.int x t0, .int y t1] n, sl⟩ := by
  unfold tupNs at h
  split at h
  · rw [Bool.and_eq_true, decide_eq_true_eq] at h
    obtain ⟨hq, h2⟩ := h
    obtain ⟨t0, r, e1, h3⟩ := tupNsL_one h2
    obtain ⟨t1, r2, e2, h4⟩ := tupNsL_one h3
    have e3 := tupNsL_nil h4
    rename_i q oc a n sl
    obtain ⟨l⟩ := a
    have e1 : l = .int x t0 :: r := e1
    subst e1 e2 e3 hq
    exact ⟨oc, n, sl, t0, t1, rfl⟩
  · cases h

def faM0 (K : PySem.W.Frag) : Bool := decide (PySem.W.subIn K (.ref (He.ga K "MeadError")) (.type "BaseException") = some true)
def faM1 (K : PySem.W.Frag) : Bool := He.eqO (PySem.W.findIn K (.ref (He.ga K "MeadError")) "__getattribute__") (some (some (.builtin "BaseException.__getattribute__")))
def faM2 (K : PySem.W.Frag) : Bool := He.eqO (PySem.W.findIn K (.ref (He.ga K "MeadError")) "__getattr__") (some none)
def faM3 (K : PySem.W.Frag) : Bool := PySem.W.hasDictIn K (He.ga K "MeadError")
def faM4 (K : PySem.W.Frag) : Bool := He.eqO (PySem.W.findIn K (.ref (He.ga K "MeadError")) "__class__") (some (some (.builtin "object.__class__")))
def faM5 (K : PySem.W.Frag) : Bool := He.eqO (PySem.W.specialIn K (.builtin "object.__class__") "__get__") (some (some (.builtin "getset_descriptor.__get__")))
def faM6 (K : PySem.W.Frag) : Bool := decide (PySem.W.takesIn K (.builtin "object.__class__") = some true)
def faM7 (K : PySem.W.Frag) : Bool := decide (PySem.W.mroIn K (He.ga K "MeadError") (.type "object") = some true)
def faM8 (K : PySem.W.Frag) : Bool := He.eqO (PySem.W.nsIn K mainGlobals "MeadError") (some (some (.ref (He.ga K "MeadError"))))
def faM9 (K : PySem.W.Frag) : Bool := PySem.W.excIn K (He.ga K "MeadError") [.type "ValueError", .type "Exception", .type "BaseException", .type "object"] "ValueError.__new__"
def faM10 (K : PySem.W.Frag) : Bool := PySem.W.keepIn K (.ref (He.ga K "MeadError"))
def faM11 (K : PySem.W.Frag) : Bool := decide (PySem.W.typeIn K (.ref (He.ga K "MeadError")) = some (.type "type"))
def faM12 (K : PySem.W.Frag) : Bool := decide (PySem.W.subIn K (.ref (He.ga K "NoFraction")) (.type "BaseException") = some true)
def faM13 (K : PySem.W.Frag) : Bool := He.eqO (PySem.W.findIn K (.ref (He.ga K "NoFraction")) "__getattribute__") (some (some (.builtin "BaseException.__getattribute__")))
def faM14 (K : PySem.W.Frag) : Bool := He.eqO (PySem.W.findIn K (.ref (He.ga K "NoFraction")) "__getattr__") (some none)
def faM15 (K : PySem.W.Frag) : Bool := PySem.W.hasDictIn K (He.ga K "NoFraction")
def faM16 (K : PySem.W.Frag) : Bool := He.eqO (PySem.W.findIn K (.ref (He.ga K "NoFraction")) "__class__") (some (some (.builtin "object.__class__")))
def faM17 (K : PySem.W.Frag) : Bool := He.eqO (PySem.W.specialIn K (.builtin "object.__class__") "__get__") (some (some (.builtin "getset_descriptor.__get__")))
def faM18 (K : PySem.W.Frag) : Bool := decide (PySem.W.takesIn K (.builtin "object.__class__") = some true)
def faM19 (K : PySem.W.Frag) : Bool := decide (PySem.W.mroIn K (He.ga K "NoFraction") (.type "object") = some true)
def faM20 (K : PySem.W.Frag) : Bool := He.eqO (PySem.W.nsIn K mainGlobals "NoFraction") (some (some (.ref (He.ga K "NoFraction"))))
def faM21 (K : PySem.W.Frag) : Bool := PySem.W.excIn K (He.ga K "NoFraction") [.type "ValueError", .type "Exception", .type "BaseException", .type "object"] "ValueError.__new__"
def faM22 (K : PySem.W.Frag) : Bool := PySem.W.keepIn K (.ref (He.ga K "NoFraction"))
def faM23 (K : PySem.W.Frag) : Bool := decide (PySem.W.typeIn K (.ref (He.ga K "NoFraction")) = some (.type "type"))
def faM24 (K : PySem.W.Frag) : Bool := decide (PySem.W.subIn K (.ref (He.ga K "BadTable")) (.type "BaseException") = some true)
def faM25 (K : PySem.W.Frag) : Bool := He.eqO (PySem.W.findIn K (.ref (He.ga K "BadTable")) "__getattribute__") (some (some (.builtin "BaseException.__getattribute__")))
def faM26 (K : PySem.W.Frag) : Bool := He.eqO (PySem.W.findIn K (.ref (He.ga K "BadTable")) "__getattr__") (some none)
def faM27 (K : PySem.W.Frag) : Bool := PySem.W.hasDictIn K (He.ga K "BadTable")
def faM28 (K : PySem.W.Frag) : Bool := He.eqO (PySem.W.findIn K (.ref (He.ga K "BadTable")) "__class__") (some (some (.builtin "object.__class__")))
def faM29 (K : PySem.W.Frag) : Bool := He.eqO (PySem.W.specialIn K (.builtin "object.__class__") "__get__") (some (some (.builtin "getset_descriptor.__get__")))
def faM30 (K : PySem.W.Frag) : Bool := decide (PySem.W.takesIn K (.builtin "object.__class__") = some true)
def faM31 (K : PySem.W.Frag) : Bool := decide (PySem.W.mroIn K (He.ga K "BadTable") (.type "object") = some true)
def faM32 (K : PySem.W.Frag) : Bool := He.eqO (PySem.W.nsIn K mainGlobals "BadTable") (some (some (.ref (He.ga K "BadTable"))))
def faM33 (K : PySem.W.Frag) : Bool := PySem.W.excIn K (He.ga K "BadTable") [.type "ValueError", .type "Exception", .type "BaseException", .type "object"] "ValueError.__new__"
def faM34 (K : PySem.W.Frag) : Bool := PySem.W.keepIn K (.ref (He.ga K "BadTable"))
def faM35 (K : PySem.W.Frag) : Bool := decide (PySem.W.typeIn K (.ref (He.ga K "BadTable")) = some (.type "type"))
def faM36 (K : PySem.W.Frag) : Bool := decide (PySem.W.subIn K (.ref (He.ga K "BadPairs")) (.type "BaseException") = some true)
def faM37 (K : PySem.W.Frag) : Bool := He.eqO (PySem.W.findIn K (.ref (He.ga K "BadPairs")) "__getattribute__") (some (some (.builtin "BaseException.__getattribute__")))
def faM38 (K : PySem.W.Frag) : Bool := He.eqO (PySem.W.findIn K (.ref (He.ga K "BadPairs")) "__getattr__") (some none)
def faM39 (K : PySem.W.Frag) : Bool := PySem.W.hasDictIn K (He.ga K "BadPairs")
def faM40 (K : PySem.W.Frag) : Bool := He.eqO (PySem.W.findIn K (.ref (He.ga K "BadPairs")) "__class__") (some (some (.builtin "object.__class__")))
def faM41 (K : PySem.W.Frag) : Bool := He.eqO (PySem.W.specialIn K (.builtin "object.__class__") "__get__") (some (some (.builtin "getset_descriptor.__get__")))
def faM42 (K : PySem.W.Frag) : Bool := decide (PySem.W.takesIn K (.builtin "object.__class__") = some true)
def faM43 (K : PySem.W.Frag) : Bool := decide (PySem.W.mroIn K (He.ga K "BadPairs") (.type "object") = some true)
def faM44 (K : PySem.W.Frag) : Bool := PySem.W.keepIn K (.ref (He.ga K "BadPairs"))
def faM45 (K : PySem.W.Frag) : Bool := decide (PySem.W.typeIn K (.ref (He.ga K "BadPairs")) = some (.type "type"))
def faM46 (K : PySem.W.Frag) : Bool := oexB K (He.ga K "BadPairs")
def faM47 (K : PySem.W.Frag) : Bool := He.eqO (PySem.W.findIn K (.ref (He.ga K "BadPairs")) "__setattr__") (some (some (.builtin "object.__setattr__")))
def faM48 (K : PySem.W.Frag) : Bool := supB flM K (He.ga K "BadPairs") "BadPairs.__init__"
def faM49 (K : PySem.W.Frag) : Bool := He.eqO (PySem.W.nsIn K mainGlobals "BadPairs") (some (some (.ref (He.ga K "BadPairs"))))
def faM50 (K : PySem.W.Frag) : Bool := He.eqO (PySem.W.findIn K (.ref (He.ga K "BadPairs")) "__init__") (some (some (.ref (He.ma K (He.ga K "BadPairs") "__init__"))))
def faM51 (K : PySem.W.Frag) : Bool := decide (PySem.W.typeIn K (.ref (He.ma K (He.ga K "BadPairs") "__init__")) = some (.type "function"))
def faM52 (K : PySem.W.Frag) : Bool := (PySem.W.clsIn K (He.ga K "BadPairs")).isSome
def faM53 (K : PySem.W.Frag) : Bool := decide (PySem.W.mroIn K (He.ga K "BadPairs") (.ref (He.ga K "BadPairs")) = some true)
def faM54 (K : PySem.W.Frag) : Bool := He.eqO (PySem.W.nsIn K cStatics "thirdparty.any") (some none)
def faM55 (K : PySem.W.Frag) : Bool := He.eqO (PySem.W.ks_superIn K (He.ga K "BadPairs") (He.ga K "BadPairs") "__init__") (some (some (.builtin "ValueError.__init__")))
def faM56 (K : PySem.W.Frag) : Bool := decide (PySem.W.subIn K (.ref (He.ga K "BadPairs")) (.type "ValueError") = some true)
def faM57 (K : PySem.W.Frag) : Bool := He.eqO (PySem.W.findIn K (.ref (He.ga K "BadPairs")) "two") (some none)
def faM58 (K : PySem.W.Frag) : Bool := decide (PySem.W.subIn K (.ref (He.ga K "BadPairs")) (.ref (He.ga K "BadPairs")) = some true)
def faM59 (K : PySem.W.Frag) : Bool := PySem.W.keepIn K (.ref (He.ga K "lowest"))
def faM60 (K : PySem.W.Frag) : Bool := He.Fa.ok K (.code ("lowest", none) "lowest")
def faM61 (K : PySem.W.Frag) : Bool := He.eqO (PySem.W.nsIn K mainGlobals "lowest") (some (some (.ref (He.ga K "lowest"))))
def faM62 (K : PySem.W.Frag) : Bool := PySem.W.keepIn K (.ref (He.ga K "less"))
def faM63 (K : PySem.W.Frag) : Bool := He.Fa.ok K (.code ("less", none) "less")
def faM64 (K : PySem.W.Frag) : Bool := He.eqO (PySem.W.nsIn K mainGlobals "less") (some (some (.ref (He.ga K "less"))))
def faM65 (K : PySem.W.Frag) : Bool := PySem.W.keepIn K (.ref (He.ga K "times"))
def faM66 (K : PySem.W.Frag) : Bool := He.Fa.ok K (.code ("times", none) "times")
def faM67 (K : PySem.W.Frag) : Bool := He.eqO (PySem.W.nsIn K mainGlobals "times") (some (some (.ref (He.ga K "times"))))
def faM68 (K : PySem.W.Frag) : Bool := PySem.W.keepIn K (.ref (He.ga K "is_part"))
def faM69 (K : PySem.W.Frag) : Bool := He.Fa.ok K (.code ("is_part", none) "is_part")
def faM70 (K : PySem.W.Frag) : Bool := He.eqO (PySem.W.nsIn K mainGlobals "is_part") (some (some (.ref (He.ga K "is_part"))))
def faM71 (K : PySem.W.Frag) : Bool := PySem.W.keepIn K (.ref (He.ga K "is_length"))
def faM72 (K : PySem.W.Frag) : Bool := He.Fa.ok K (.code ("is_length", none) "is_length")
def faM73 (K : PySem.W.Frag) : Bool := He.eqO (PySem.W.nsIn K mainGlobals "is_length") (some (some (.ref (He.ga K "is_length"))))
def faM74 (K : PySem.W.Frag) : Bool := PySem.W.keepIn K (.ref (He.ga K "looked"))
def faM75 (K : PySem.W.Frag) : Bool := He.Fa.ok K (.code ("looked", none) "looked")
def faM76 (K : PySem.W.Frag) : Bool := He.eqO (PySem.W.nsIn K mainGlobals "looked") (some (some (.ref (He.ga K "looked"))))
def faM77 (K : PySem.W.Frag) : Bool := PySem.W.keepIn K (.ref (He.ga K "is_twin_length"))
def faM78 (K : PySem.W.Frag) : Bool := He.Fa.ok K (.code ("is_twin_length", none) "is_twin_length")
def faM79 (K : PySem.W.Frag) : Bool := He.eqO (PySem.W.nsIn K mainGlobals "is_twin_length") (some (some (.ref (He.ga K "is_twin_length"))))
def faM80 (K : PySem.W.Frag) : Bool := PySem.W.keepIn K (.ref (He.ga K "broken"))
def faM81 (K : PySem.W.Frag) : Bool := He.Fa.ok K (.code ("broken", none) "broken")
def faM82 (K : PySem.W.Frag) : Bool := He.eqO (PySem.W.nsIn K mainGlobals "broken") (some (some (.ref (He.ga K "broken"))))
def faM83 (K : PySem.W.Frag) : Bool := PySem.W.keepIn K (.ref (He.ga K "keeps_rule"))
def faM84 (K : PySem.W.Frag) : Bool := He.Fa.ok K (.code ("keeps_rule", none) "keeps_rule")
def faM85 (K : PySem.W.Frag) : Bool := He.eqO (PySem.W.nsIn K mainGlobals "keeps_rule") (some (some (.ref (He.ga K "keeps_rule"))))
def faM86 (K : PySem.W.Frag) : Bool := PySem.W.keepIn K (.ref (He.ga K "multiplied"))
def faM87 (K : PySem.W.Frag) : Bool := He.Fa.ok K (.code ("multiplied", none) "multiplied")
def faM88 (K : PySem.W.Frag) : Bool := He.eqO (PySem.W.nsIn K mainGlobals "multiplied") (some (some (.ref (He.ga K "multiplied"))))
def faM89 (K : PySem.W.Frag) : Bool := PySem.W.keepIn K (.ref (He.ga K "of_pairs"))
def faM90 (K : PySem.W.Frag) : Bool := He.Fa.ok K (.code ("of_pairs", none) "of_pairs")
def faM91 (K : PySem.W.Frag) : Bool := He.eqO (PySem.W.nsIn K mainGlobals "of_pairs") (some (some (.ref (He.ga K "of_pairs"))))
def faM92 (K : PySem.W.Frag) : Bool := PySem.W.keepIn K (.ref (He.ga K "spread"))
def faM93 (K : PySem.W.Frag) : Bool := He.Fa.ok K (.code ("spread", none) "spread")
def faM94 (K : PySem.W.Frag) : Bool := He.eqO (PySem.W.nsIn K mainGlobals "spread") (some (some (.ref (He.ga K "spread"))))
def faM95 (K : PySem.W.Frag) : Bool := PySem.W.keepIn K (.ref (He.ga K "_law_flow"))
def faM96 (K : PySem.W.Frag) : Bool := He.Fa.ok K (.code ("_law_flow", none) "_law_flow")
def faM97 (K : PySem.W.Frag) : Bool := He.eqO (PySem.W.nsIn K mainGlobals "_law_flow") (some (some (.ref (He.ga K "_law_flow"))))
def faM98 (K : PySem.W.Frag) : Bool := PySem.W.keepIn K (.ref (He.ga K "_law_whole"))
def faM99 (K : PySem.W.Frag) : Bool := He.Fa.ok K (.code ("_law_whole", none) "_law_whole")
def faM100 (K : PySem.W.Frag) : Bool := He.eqO (PySem.W.nsIn K mainGlobals "_law_whole") (some (some (.ref (He.ga K "_law_whole"))))
def faM101 (K : PySem.W.Frag) : Bool := PySem.W.keepIn K (.ref (He.ga K "_law_low"))
def faM102 (K : PySem.W.Frag) : Bool := He.Fa.ok K (.code ("_law_low", none) "_law_low")
def faM103 (K : PySem.W.Frag) : Bool := He.eqO (PySem.W.nsIn K mainGlobals "_law_low") (some (some (.ref (He.ga K "_law_low"))))
def faM104 (K : PySem.W.Frag) : Bool := PySem.W.keepIn K (.ref (He.ga K "_law_add"))
def faM105 (K : PySem.W.Frag) : Bool := He.Fa.ok K (.code ("_law_add", none) "_law_add")
def faM106 (K : PySem.W.Frag) : Bool := He.eqO (PySem.W.nsIn K mainGlobals "_law_add") (some (some (.ref (He.ga K "_law_add"))))
def faM107 (K : PySem.W.Frag) : Bool := PySem.W.keepIn K (.ref (He.ga K "_law_mul"))
def faM108 (K : PySem.W.Frag) : Bool := He.Fa.ok K (.code ("_law_mul", none) "_law_mul")
def faM109 (K : PySem.W.Frag) : Bool := He.eqO (PySem.W.nsIn K mainGlobals "_law_mul") (some (some (.ref (He.ga K "_law_mul"))))
def faM110 (K : PySem.W.Frag) : Bool := PySem.W.keepIn K (.ref (He.ga K "_law_part"))
def faM111 (K : PySem.W.Frag) : Bool := He.Fa.ok K (.code ("_law_part", none) "_law_part")
def faM112 (K : PySem.W.Frag) : Bool := He.eqO (PySem.W.nsIn K mainGlobals "_law_part") (some (some (.ref (He.ga K "_law_part"))))
def faM113 (K : PySem.W.Frag) : Bool := PySem.W.keepIn K (.ref (He.ga K "_law_size"))
def faM114 (K : PySem.W.Frag) : Bool := He.Fa.ok K (.code ("_law_size", none) "_law_size")
def faM115 (K : PySem.W.Frag) : Bool := He.eqO (PySem.W.nsIn K mainGlobals "_law_size") (some (some (.ref (He.ga K "_law_size"))))
def faM116 (K : PySem.W.Frag) : Bool := PySem.W.keepIn K (.ref (He.ga K "_law_many"))
def faM117 (K : PySem.W.Frag) : Bool := He.Fa.ok K (.code ("_law_many", none) "_law_many")
def faM118 (K : PySem.W.Frag) : Bool := He.eqO (PySem.W.nsIn K mainGlobals "_law_many") (some (some (.ref (He.ga K "_law_many"))))
def faM119 (K : PySem.W.Frag) : Bool := PySem.W.keepIn K (.ref (He.ga K "_law_spread"))
def faM120 (K : PySem.W.Frag) : Bool := He.Fa.ok K (.code ("_law_spread", none) "_law_spread")
def faM121 (K : PySem.W.Frag) : Bool := He.eqO (PySem.W.nsIn K mainGlobals "_law_spread") (some (some (.ref (He.ga K "_law_spread"))))
def faM122 (K : PySem.W.Frag) : Bool := PySem.W.keepIn K (.ref (He.ga K "_law_tuple"))
def faM123 (K : PySem.W.Frag) : Bool := He.Fa.ok K (.code ("_law_tuple", none) "_law_tuple")
def faM124 (K : PySem.W.Frag) : Bool := He.eqO (PySem.W.nsIn K mainGlobals "_law_tuple") (some (some (.ref (He.ga K "_law_tuple"))))
def faM125 (K : PySem.W.Frag) : Bool := PySem.W.keepIn K (.ref (He.ga K "_law_parts"))
def faM126 (K : PySem.W.Frag) : Bool := He.Fa.ok K (.code ("_law_parts", none) "_law_parts")
def faM127 (K : PySem.W.Frag) : Bool := He.eqO (PySem.W.nsIn K mainGlobals "_law_parts") (some (some (.ref (He.ga K "_law_parts"))))
def faM128 (K : PySem.W.Frag) : Bool := PySem.W.keepIn K (.ref (He.ga K "_law_table"))
def faM129 (K : PySem.W.Frag) : Bool := He.Fa.ok K (.code ("_law_table", none) "_law_table")
def faM130 (K : PySem.W.Frag) : Bool := He.eqO (PySem.W.nsIn K mainGlobals "_law_table") (some (some (.ref (He.ga K "_law_table"))))
def faM131 (K : PySem.W.Frag) : Bool := PySem.W.keepIn K (.ref (He.ga K "_law_drawn"))
def faM132 (K : PySem.W.Frag) : Bool := He.Fa.ok K (.code ("_law_drawn", none) "_law_drawn")
def faM133 (K : PySem.W.Frag) : Bool := He.eqO (PySem.W.nsIn K mainGlobals "_law_drawn") (some (some (.ref (He.ga K "_law_drawn"))))
def faM134 (K : PySem.W.Frag) : Bool := PySem.W.keepIn K (.ref (He.ga K "_law_bad"))
def faM135 (K : PySem.W.Frag) : Bool := He.Fa.ok K (.code ("_law_bad", none) "_law_bad")
def faM136 (K : PySem.W.Frag) : Bool := He.eqO (PySem.W.nsIn K mainGlobals "_law_bad") (some (some (.ref (He.ga K "_law_bad"))))
def faM137 (K : PySem.W.Frag) : Bool := PySem.W.keepIn K (.ref (He.ga K "law"))
def faM138 (K : PySem.W.Frag) : Bool := He.Fa.ok K (.code ("law", none) "law")
def faM139 (K : PySem.W.Frag) : Bool := He.eqO (PySem.W.nsIn K mainGlobals "law") (some (some (.ref (He.ga K "law"))))
def faM140 (K : PySem.W.Frag) : Bool := He.eqO (PySem.W.nsIn K mainGlobals "abs") (some none)
def faM141 (K : PySem.W.Frag) : Bool := He.eqO (PySem.W.nsIn K mainGlobals "all") (some none)
def faM142 (K : PySem.W.Frag) : Bool := He.eqO (PySem.W.nsIn K mainGlobals "any") (some none)
def faM143 (K : PySem.W.Frag) : Bool := He.eqO (PySem.W.nsIn K mainGlobals "bool") (some none)
def faM144 (K : PySem.W.Frag) : Bool := He.eqO (PySem.W.nsIn K mainGlobals "int") (some none)
def faM145 (K : PySem.W.Frag) : Bool := He.eqO (PySem.W.nsIn K mainGlobals "isinstance") (some none)
def faM146 (K : PySem.W.Frag) : Bool := He.eqO (PySem.W.nsIn K mainGlobals "len") (some none)
def faM147 (K : PySem.W.Frag) : Bool := He.eqO (PySem.W.nsIn K mainGlobals "list") (some none)
def faM148 (K : PySem.W.Frag) : Bool := He.eqO (PySem.W.nsIn K mainGlobals "max") (some none)
def faM149 (K : PySem.W.Frag) : Bool := He.eqO (PySem.W.nsIn K mainGlobals "min") (some none)
def faM150 (K : PySem.W.Frag) : Bool := He.eqO (PySem.W.nsIn K mainGlobals "range") (some none)
def faM151 (K : PySem.W.Frag) : Bool := He.eqO (PySem.W.nsIn K mainGlobals "super") (some none)
def faM152 (K : PySem.W.Frag) : Bool := He.eqO (PySem.W.nsIn K mainGlobals "tuple") (some none)
def faM153 (K : PySem.W.Frag) : Bool := He.Fa.ok K (.int "LEAST_POSTS" 3)
def faM154 (K : PySem.W.Frag) : Bool := He.Fa.ok K (.int "MOST_POSTS" 12)
def faM155 (K : PySem.W.Frag) : Bool := tupNs (K.lookup (He.ga K "NOUGHT")) [0, 1]
def faM156 (K : PySem.W.Frag) : Bool := He.eqO (PySem.W.nsIn K mainGlobals "NOUGHT") (some (some (.ref (He.ga K "NOUGHT"))))
def faM157 (K : PySem.W.Frag) : Bool := He.eqO (PySem.W.nsIn K mainGlobals "combinations") (some (some (.type "itertools.combinations")))
def faM158 (K : PySem.W.Frag) : Bool := He.eqO (PySem.W.nsIn K mainGlobals "gcd") (some (some (.builtin "math.gcd")))
def faM159 (K : PySem.W.Frag) : Bool := He.eqO (PySem.W.nsIn K mainGlobals "law") (some (some (.ref (He.ga K "law"))))
def dM_lowest : He.FnD := ⟨("lowest", none), "lowest", "lowest", defArgs s_lowest, defBody s_lowest, defScope s_lowest⟩
def dM_less : He.FnD := ⟨("less", none), "less", "less", defArgs s_less, defBody s_less, defScope s_less⟩
def dM_times : He.FnD := ⟨("times", none), "times", "times", defArgs s_times, defBody s_times, defScope s_times⟩
def dM_is_part : He.FnD := ⟨("is_part", none), "is_part", "is_part", defArgs s_is_part, defBody s_is_part, defScope s_is_part⟩
def dM_is_length : He.FnD := ⟨("is_length", none), "is_length", "is_length", defArgs s_is_length, defBody s_is_length, defScope s_is_length⟩
def dM_looked : He.FnD := ⟨("looked", none), "looked", "looked", defArgs s_looked, defBody s_looked, defScope s_looked⟩
def dM_is_twin_length : He.FnD := ⟨("is_twin_length", none), "is_twin_length", "is_twin_length", defArgs s_is_twin_length, defBody s_is_twin_length, defScope s_is_twin_length⟩
def dM_broken : He.FnD := ⟨("broken", none), "broken", "broken", defArgs s_broken, defBody s_broken, defScope s_broken⟩
def dM_keeps_rule : He.FnD := ⟨("keeps_rule", none), "keeps_rule", "keeps_rule", defArgs s_keeps_rule, defBody s_keeps_rule, defScope s_keeps_rule⟩
def dM_multiplied : He.FnD := ⟨("multiplied", none), "multiplied", "multiplied", defArgs s_multiplied, defBody s_multiplied, defScope s_multiplied⟩
def dM_of_pairs : He.FnD := ⟨("of_pairs", none), "of_pairs", "of_pairs", defArgs s_of_pairs, defBody s_of_pairs, defScope s_of_pairs⟩
def dM_spread : He.FnD := ⟨("spread", none), "spread", "spread", defArgs s_spread, defBody s_spread, defScope s_spread⟩
def dM__law_flow : He.FnD := ⟨("_law_flow", none), "_law_flow", "_law_flow", defArgs s__law_flow, defBody s__law_flow, defScope s__law_flow⟩
def dM__law_whole : He.FnD := ⟨("_law_whole", none), "_law_whole", "_law_whole", defArgs s__law_whole, defBody s__law_whole, defScope s__law_whole⟩
def dM__law_low : He.FnD := ⟨("_law_low", none), "_law_low", "_law_low", defArgs s__law_low, defBody s__law_low, defScope s__law_low⟩
def dM__law_add : He.FnD := ⟨("_law_add", none), "_law_add", "_law_add", defArgs s__law_add, defBody s__law_add, defScope s__law_add⟩
def dM__law_mul : He.FnD := ⟨("_law_mul", none), "_law_mul", "_law_mul", defArgs s__law_mul, defBody s__law_mul, defScope s__law_mul⟩
def dM__law_part : He.FnD := ⟨("_law_part", none), "_law_part", "_law_part", defArgs s__law_part, defBody s__law_part, defScope s__law_part⟩
def dM__law_size : He.FnD := ⟨("_law_size", none), "_law_size", "_law_size", defArgs s__law_size, defBody s__law_size, defScope s__law_size⟩
def dM__law_many : He.FnD := ⟨("_law_many", none), "_law_many", "_law_many", defArgs s__law_many, defBody s__law_many, defScope s__law_many⟩
def dM__law_spread : He.FnD := ⟨("_law_spread", none), "_law_spread", "_law_spread", defArgs s__law_spread, defBody s__law_spread, defScope s__law_spread⟩
def dM__law_tuple : He.FnD := ⟨("_law_tuple", none), "_law_tuple", "_law_tuple", defArgs s__law_tuple, defBody s__law_tuple, defScope s__law_tuple⟩
def dM__law_parts : He.FnD := ⟨("_law_parts", none), "_law_parts", "_law_parts", defArgs s__law_parts, defBody s__law_parts, defScope s__law_parts⟩
def dM__law_table : He.FnD := ⟨("_law_table", none), "_law_table", "_law_table", defArgs s__law_table, defBody s__law_table, defScope s__law_table⟩
def dM__law_drawn : He.FnD := ⟨("_law_drawn", none), "_law_drawn", "_law_drawn", defArgs s__law_drawn, defBody s__law_drawn, defScope s__law_drawn⟩
def dM__law_bad : He.FnD := ⟨("_law_bad", none), "_law_bad", "_law_bad", defArgs s__law_bad, defBody s__law_bad, defScope s__law_bad⟩
def dM_law : He.FnD := ⟨("law", none), "law", "law", defArgs s_law, defBody s_law, defScope s_law⟩
def falM0 : List (PySem.W.Frag → Bool) := [faM0, faM1, faM2, faM3, faM4, faM5, faM6, faM7, faM8, faM9, faM10, faM11, faM12, faM13, faM14, faM15, faM16, faM17, faM18, faM19, faM20, faM21, faM22, faM23, faM24, faM25, faM26, faM27, faM28, faM29, faM30, faM31, faM32, faM33, faM34, faM35, faM36, faM37, faM38, faM39]
def falM1 : List (PySem.W.Frag → Bool) := [faM40, faM41, faM42, faM43, faM44, faM45, faM46, faM47, faM48, faM49, faM50, faM51, faM52, faM53, faM54, faM55, faM56, faM57, faM58, faM59, faM60, faM61, faM62, faM63, faM64, faM65, faM66, faM67, faM68, faM69, faM70, faM71, faM72, faM73, faM74, faM75, faM76, faM77, faM78, faM79]
def falM2 : List (PySem.W.Frag → Bool) := [faM80, faM81, faM82, faM83, faM84, faM85, faM86, faM87, faM88, faM89, faM90, faM91, faM92, faM93, faM94, faM95, faM96, faM97, faM98, faM99, faM100, faM101, faM102, faM103, faM104, faM105, faM106, faM107, faM108, faM109, faM110, faM111, faM112, faM113, faM114, faM115, faM116, faM117, faM118, faM119]
def falM3 : List (PySem.W.Frag → Bool) := [faM120, faM121, faM122, faM123, faM124, faM125, faM126, faM127, faM128, faM129, faM130, faM131, faM132, faM133, faM134, faM135, faM136, faM137, faM138, faM139, faM140, faM141, faM142, faM143, faM144, faM145, faM146, faM147, faM148, faM149, faM150, faM151, faM152, faM153, faM154, faM155, faM156, faM157, faM158, faM159]
def falM : List (PySem.W.Frag → Bool) := falM0 ++ (falM1 ++ (falM2 ++ (falM3)))
def fnlM0 : List He.FnD := [dM_lowest, dM_less, dM_times, dM_is_part, dM_is_length, dM_looked, dM_is_twin_length, dM_broken, dM_keeps_rule, dM_multiplied, dM_of_pairs, dM_spread, dM__law_flow, dM__law_whole, dM__law_low, dM__law_add, dM__law_mul, dM__law_part, dM__law_size, dM__law_many, dM__law_spread, dM__law_tuple, dM__law_parts, dM__law_table, dM__law_drawn, dM__law_bad, dM_law]
def fnlM : List He.FnD := fnlM0
def looM0 : List PySem.Str := [Str.ofString "combinations", Str.ofString "gcd", Str.ofString "__name__", Str.ofString "MeadError", Str.ofString "NoFraction", Str.ofString "BadTable", Str.ofString "BadPairs", Str.ofString "LEAST_POSTS", Str.ofString "MOST_POSTS", Str.ofString "NOUGHT", Str.ofString "lowest", Str.ofString "less", Str.ofString "times", Str.ofString "is_part", Str.ofString "is_length", Str.ofString "looked", Str.ofString "is_twin_length", Str.ofString "broken", Str.ofString "keeps_rule", Str.ofString "multiplied", Str.ofString "of_pairs", Str.ofString "spread", Str.ofString "_law_flow", Str.ofString "_law_whole", Str.ofString "_law_low", Str.ofString "_law_add", Str.ofString "_law_mul", Str.ofString "_law_part", Str.ofString "_law_size", Str.ofString "_law_many", Str.ofString "_law_spread", Str.ofString "_law_tuple", Str.ofString "_law_parts", Str.ofString "_law_table", Str.ofString "_law_drawn", Str.ofString "_law_bad"]
def looM : List PySem.Str := looM0
def refsM (o : Obj) : List Addr := match o.data with
  | .func fd => He.refV fd.code ++ fd.closure.map (·.2)
  | .cls cd => [cd.ns]
  | .dict _ _ => He.refsO o
  | _ => []
def layM (g : Addr → Option Obj) (as : List Addr) : List Addr := as.flatMap fun a => match g a with
  | some o => refsM o
  | none => []
def asM4 (g : Addr → Option Obj) (as : List Addr) : List Addr := as ++ layM g as
def asM3 (g : Addr → Option Obj) (as : List Addr) : List Addr := as ++ asM4 g (layM g as)
def asM2 (g : Addr → Option Obj) (as : List Addr) : List Addr := as ++ asM3 g (layM g as)
def asM (g : Addr → Option Obj) : List Addr := cStatics :: mainGlobals :: asM2 g (layM g [mainGlobals])
def suD_BadPairs : He.FnV := some ("__init__", "BadPairs.__init__", defArgs s_BadPairs___init__, .stmts (defBody s_BadPairs___init__), defScope s_BadPairs___init__, mainGlobals, [("__class__", 0)], .none, builtinsNs)
def suM : List (Str × He.FnV) := [("BadPairs", suD_BadPairs)]
theorem supM_at {K : PySem.W.Frag} (c3 : suM.map (fun p => supObs K (He.ga K p.1)) = suM.map (fun p => p.2)) {p : Str × He.FnV} {j : Nat} (h : nthM suM j = some p) : supObs K (He.ga K p.1) = p.2 := nthM_map (u := fun p => supObs K (He.ga K p.1)) (v := fun p => p.2) c3 h
abbrev SayT : Type := List Bool × List He.FnV × List He.FnV
def obsM (K : PySem.W.Frag) : SayT := (falM.map (fun f => f K), suM.map (fun p => supObs K (He.ga K p.1)), fnlM.map (fun d => He.fnObs K d.at_))
def valM : SayT := (falM.map (fun _ => true), suM.map (fun p => p.2), fnlM.map He.FnD.val)
def hkM : PySem.W.Hook where
  α := SayT
  obs := fun s => obsM (He.frG s.heap.get? (asM s.heap.get?))
  val := fun _ => valM
  says := fun _ h => ∃ K : PySem.W.Frag, K.In h ∧ obsM K = valM
  of := fun _ _ e => ⟨_, He.frG_in, e⟩
  keeps := fun _ _ _ z k => match z with | ⟨K, hK, c⟩ => ⟨K, PySem.W.Frag.In.keeps hK k, c⟩
def obM (s : PySem.W.SharedT) : SayT := obsM (He.frG (HandSHeadRun.getT s) (asM (HandSHeadRun.getT s)))
theorem obM_eq (s : PySem.W.SharedT) : obM s = hkM.obs s.abs := by
  have e : HandSHeadRun.getT s = s.abs.heap.get? := funext (HandSHeadRun.getT_eq s)
  show obsM (He.frG (HandSHeadRun.getT s) (asM (HandSHeadRun.getT s))) = obsM (He.frG s.abs.heap.get? (asM s.abs.heap.get?))
  rw [e]
abbrev RowM : PySem.W.OpenRow := PySem.W.OpenLaw.row PySem.Challenge.rw_postmead_k29_tables_of_pairs
theorem runM (w : World) : HandSHeadRun.RunEqI RowM (PySem.W.view RowM.prog [39]) hkM obM 9000 looM w := by
  unfold HandSHeadRun.RunEqI; kernel_rfl
theorem fctM {K : PySem.W.Frag} (c : falM.map (fun f => f K) = falM.map (fun _ => true)) {f : PySem.W.Frag → Bool} {j : Nat} (h : nthM falM j = some f) : f K = true := nthM_map (u := fun f => f K) (v := fun _ => true) c h
theorem fntM {K : PySem.W.Frag} (c : fnlM.map (fun d => He.fnObs K d.at_) = fnlM.map He.FnD.val) {d : He.FnD} {j : Nat} (h : nthM fnlM j = some d) : He.fnObs K d.at_ = d.val := nthM_map c h
section
variable {P : Program} {w : World} {K : PySem.W.Frag} {mg : Str → Option Value} {base : Heap}

/-! ### the row of numbers that the script makes -/
def rowOk (rs : List Int) : Prop := ∀ v ∈ rs, 0 ≤ v ∧ v < 1000000
theorem rowOk_nil : rowOk [] := fun _ h => by cases h
theorem rowOk_add {rs : List Int} {v : Int} (h : rowOk rs) (h0 : 0 ≤ v) (h1 : v < 1000000) : rowOk (rs ++ [v]) := fun x hx => by
  rcases List.mem_append.mp hx with q | q
  · exact h x q
  · rw [List.mem_singleton.mp q]
    exact ⟨h0, h1⟩
def sp_flow (K : PySem.W.Frag) : Sp := fun vs H Q _ => ∃ (a : Addr) (ns : List Int) (m : Int), vs = [.ref a, .int m] ∧ SqL K H a (ns.map V.int) ∧ ns.length ≤ 63 ∧ 0 ≤ m ∧ m ≤ 1000 ∧
  ∀ H' p (rs : List Int), Same H H' → H p = none → rs.length = m.toNat → rowOk rs → H' p = some (.lst (rs.map V.int)) → Q (.ref p) H'
def flowInv (a : Addr) (m : Int) (p : Addr) (H : Hp) : Nat → L2.St → Hp → Prop := fun i σ H' => ∃ (g : Int) (rs : List Int) (k c x : Option V),
  σ = [some (.ref a), some (.int m), some (.int g), some (.ref p), k, c, x] ∧ Same H H' ∧ H' p = some (.lst (rs.map V.int)) ∧ rs.length = i ∧ rowOk rs
theorem mod_in (x : Int) : 0 ≤ x % 1000000 ∧ x % 1000000 < 1000000 := ⟨Int.emod_nonneg _ (by decide), Int.emod_lt_of_pos _ (by decide)⟩
theorem flow_turn {a p : Addr} {m g z : Int} {H H' : Hp} {i : Nat} {rs : List Int} {k c x : Option V} (hs : Same H H') (hp : H p = none) (hrl : rs.length = i) (hro : rowOk rs) :
    flowInv a m p H (i + 1) [some (.ref a), some (.int m), some (.int g), some (.ref p), k, c, x] (upd H' p (.lst (rs.map V.int ++ [V.int (z % 1000000)]))) := by
  refine ⟨g, rs ++ [z % 1000000], k, c, x, rfl, same_put hs hp, ?_, by rw [List.length_append, hrl]; rfl, rowOk_add hro (mod_in z).1 (mod_in z).2⟩
  rw [upd_same, List.map_append]; rfl
theorem mod_at {ns : List Int} (h : 0 < ns.length) (k : Nat) : ∃ z, atI (ns.map V.int) ((k : Int) % (ns.length : Int)) = some (.int z) := by
  have hk : k % ns.length < ns.length := Nat.mod_lt _ h
  refine ⟨ns[k % ns.length], ?_⟩
  rw [← Int.natCast_emod]
  refine atI_nat ?_
  rw [List.getElem?_map, List.getElem?_eq_getElem hk]
  rfl
theorem ok__law_flow (T : Env K mg) (su : SupP flM P) : FnOk P w K mg base CX0 1 T.a__law_flow T.fd__law_flow ["_law_script", "_law_many_here"] (sp_flow K) := by
  refine T.F__law_flow.ok sc__law_flow (fun vs H Q E h => ?_) (fun cdv A outer s H vs Q E hr h => ?_)
  · obtain ⟨a, ns, m, rfl, _⟩ := h
    rfl
  · obtain ⟨a, ns, m, rfl, hS, hl, hm0, hm1, q⟩ := h
    refine ⟨_, (pss_cons (ps_set (i := 2) sc__law_flow.nd rfl (.inl rfl) pe_int)
 (C8.pss_cut (ps_if (PW.pt (pw_and (pt_cmpR op_gt (pe_callB (id := "len") call_len_seq (by rfl) T.m_len (by decide +kernel) (pa_cons (pv 0) pa_nil)) pe_int (nomark _)) (pw_and1 (pt_cmpR op_ge (pe_callB call_abs (by rfl) T.m_abs (by decide +kernel) (pa_cons (pe_ix ix_list (pv 0) pe_int (fun _ _ => rfl)) pa_nil)) (pe_op op_pow pe_int pe_int) (nomark _)))))
 (pss_one (ps_set (i := 2) sc__law_flow.nd rfl (.inl rfl) (pe_op op_sub (pe_callB call_abs (by rfl) T.m_abs (by decide +kernel) (pa_cons (pe_ix ix_list (pv 0) pe_int (fun _ _ => rfl)) pa_nil)) (pe_op op_pow pe_int pe_int))))
 pss_nil)
 (pss_cons (ps_set (i := 3) sc__law_flow.nd rfl (.inl rfl) (pe_lst pa_nil))
 (pss_cons (ps_for PassesOwn.never rfl (pi_range1 (by rfl) T.m_range (pa_cons (pv 1) pa_nil)) (pg_name (i := 4) sc__law_flow.nd rfl (.inl rfl))
 (pss_one (ps_if (pt_cmpR op_gt (pv 2) pe_int (nomark _))
 (pss_cons (ps_expr (pe_bm PySem.F.plainAttrs_list PySem.F.slot_list_append PySem.F.type_list_append mt_append (pv 3) (pa_cons (pe_op op_mod (pv 2) pe_int) pa_nil)))
 (pss_one (ps_set (i := 2) sc__law_flow.nd rfl (.inl rfl) (pe_op op_fdiv (pv 2) pe_int))))
 (pss_cons (ps_set (i := 5) sc__law_flow.nd rfl (.inl rfl) (pe_op op_add (pv 4) pe_int))
 (C8.pss_cut (ps_if (pt_cmpR op_gt (pe_callB (id := "len") call_len_seq (by rfl) T.m_len (by decide +kernel) (pa_cons (pv 0) pa_nil)) pe_int (nomark _))
 (pss_one (ps_set (i := 5) sc__law_flow.nd rfl (.inl rfl) (pe_ix ix_list (pv 0) (pe_op op_mod (pv 4) (pe_callB (id := "len") call_len_seq (by rfl) T.m_len (by decide +kernel) (pa_cons (pv 0) pa_nil))) (fun _ _ => rfl))))
 pss_nil)
 (pss_cons (ps_set (i := 6) sc__law_flow.nd rfl (.inl rfl) (pe_op op_mod (pe_op op_add (pe_op op_add (pe_op op_mulU (pv 5) pe_int) (pe_op op_mulU (pv 4) pe_int)) pe_int) pe_int))
 (pss_cons (ps_set (i := 6) sc__law_flow.nd rfl (.inl rfl) (pe_op op_mod (pe_op op_add (pe_op op_add (pe_op op_mulU (pv 6) pe_int) (pe_op op_mulU (pv 4) pe_int)) (pe_callB (id := "len") call_len_seq (by rfl) T.m_len (by decide +kernel) (pa_cons (pv 0) pa_nil))) pe_int))
 (pss_one (ps_expr (pe_bm PySem.F.plainAttrs_list PySem.F.slot_list_append PySem.F.type_list_append mt_append (pv 3) (pa_cons (pe_op op_mod (pe_op op_fdiv (pv 6) pe_int) pe_int) pa_nil)))))))))))
 (pss_one (ps_ret (pv 3))))))), ?_⟩
    have hlen : (ns.map V.int).length = ns.length := List.length_map _
    refine ⟨fun σ' H' => ∃ g : Int, σ' = [some (.ref a), some (.int m), some (.int g), none, none, none, none] ∧ H = H', ?_, ?_⟩
    · refine ⟨_, rfl, _, _, rfl, .inl hS, _, _, rfl, rfl, _, rfl, ite2 (fun hd => ?_) (fun _ => ⟨_, rfl, rfl⟩)⟩
      have h0 : 0 < ns.length := by
        have := of_decide_eq_true hd
        rw [hlen] at this
        omega
      obtain ⟨z, hz⟩ := mod_at h0 0
      have hz0 : atI (ns.map V.int) 0 = some (.int z) := by
        have e : ((0 : Nat) : Int) % (ns.length : Int) = 0 := by simp
        rw [e] at hz
        exact hz
      refine ⟨_, rfl, a, _, _, _, rfl, rfl, hS, hz0, _, rfl, _, _, rfl, rfl, ⟨by decide, by decide, by decide⟩, _, _, rfl, rfl, _, rfl, ?_⟩
      refine ite2 (fun _ => ?_) (fun _ => ⟨_, rfl, rfl⟩)
      exact ⟨_, rfl, a, _, _, _, rfl, rfl, hS, hz0, _, rfl, _, _, rfl, rfl, ⟨by decide, by decide, by decide⟩, _, _, rfl, rfl, _, rfl, rfl⟩
    · rintro _ _ ⟨g, rfl, rfl⟩
      refine ⟨Nat.zero_le _, fun p hp => ?_⟩
      refine ⟨_, rfl, m, rfl, by omega, by omega, for_range (lo := 0) (n := m.toNat) (flowInv a m p H) ⟨g, [], none, none, none, rfl, same_new hp, upd_same, rfl, rowOk_nil⟩ ?_ ?_⟩
      · rintro i σ H' hi ⟨g, rs, k, c, x, rfl, hs, hpl, hrl, hro⟩
        have hA := hs.seq hS
        have hsz : (rs.map V.int).length < sizeLine := by rw [List.length_map]; exact small1000 (by omega)
        refine ⟨_, rfl, _, _, rfl, rfl, _, rfl, ite2 (fun _ => ?_) (fun _ => ?_)⟩
        · refine ⟨_, rfl, .inl ⟨rfl, _, .inl (.inl hpl)⟩, _, rfl, _, _, rfl, rfl, (by show (0 : Int) < _; decide), p, _, _, rfl, rfl, hpl, hsz, ?_⟩
          refine ⟨_, rfl, _, _, rfl, rfl, ⟨by decide, by decide⟩, ?_⟩
          exact flow_turn hs hp hrl hro
        · refine ⟨_, rfl, _, _, rfl, rfl, ?_⟩
          refine ⟨fun σ' H2 => ∃ cell : Int, σ' = [some (.ref a), some (.int m), some (.int g), some (.ref p), some (.int (0 + (i : Int))), some (.int cell), x] ∧ H' = H2, ?_, ?_⟩
          · refine ⟨_, rfl, _, _, rfl, .inl hA, _, _, rfl, rfl, _, rfl, ite2 (fun hd => ?_) (fun _ => ⟨_, rfl, rfl⟩)⟩
            have h0 : 0 < ns.length := by
              have := of_decide_eq_true hd
              rw [hlen] at this
              omega
            obtain ⟨z, hz⟩ := mod_at h0 i
            refine ⟨_, rfl, _, rfl, _, rfl, _, _, rfl, .inl hA, _, _, rfl, rfl, (by rw [hlen]; omega), a, _, _, .int z, rfl, rfl, hA, ?_, ⟨z, rfl, rfl⟩⟩
            rw [hlen, Int.zero_add]
            exact hz
          · rintro _ _ ⟨cell, rfl, rfl⟩
            refine ⟨_, rfl, _, _, rfl, rfl, mulR (by decide) (by decide), _, rfl, _, _, rfl, rfl, mulR (by decide) (by decide), _, _, rfl, rfl, _, _, rfl, rfl, _, _, rfl, rfl, (by show (0 : Int) < _; decide), ?_⟩
            refine ⟨_, rfl, _, _, rfl, rfl, mulR (by decide) (by decide), _, rfl, _, _, rfl, rfl, mulR (by decide) (by decide), _, _, rfl, rfl, _, rfl, _, _, rfl, .inl hA, _, _, rfl, rfl, _, _, rfl, rfl, (by show (0 : Int) < _; decide), ?_⟩
            refine ⟨_, rfl, .inl ⟨rfl, _, .inl (.inl hpl)⟩, _, rfl, _, _, rfl, rfl, ⟨by decide, by decide⟩, _, _, rfl, rfl, (by show (0 : Int) < _; decide), p, _, _, rfl, rfl, hpl, hsz, ?_⟩
            exact flow_turn hs hp hrl hro
      · rintro σ H' ⟨g, rs, k, c, x, rfl, hs, hpl, hrl, hro⟩
        exact ⟨_, rfl, q H' p rs hs hp hrl hro hpl⟩

namespace Cb
theorem mro_cb : mroOf (.type "itertools.combinations") = pure [.type "itertools.combinations", .type "object"] := by rw [mroOf_type]; kernel_rfl
theorem look_cb : typeLookup (.type "itertools.combinations") "__new__" = pure (some (.builtin "itertools.combinations.__new__")) := by rw [typeLookup_type, builtinLookup_eq_fast]; kernel_rfl
theorem slot_cb_init : Slot "itertools.combinations" "__init__" "object.__init__" :=
  .of (owner := "object") (n := "__init__") (by rw [typeLookup_type, builtinLookup_eq_fast]; kernel_rfl) (by decide +kernel) (by decide +kernel) (by decide +kernel)
    (by first | exact .inl (by decide +kernel) | exact .inr (by decide +kernel)) (by rw [isSubtype_type]; kernel_rfl)
theorem sub_cb : isSubtype (.type "itertools.combinations") (.type "itertools.combinations") = pure true := by rw [isSubtype_type]; kernel_rfl
theorem called_cb : TypeCalled "itertools.combinations" "itertools.combinations.__new__" "object.__init__" :=
  ⟨by decide +kernel, by decide +kernel, ⟨_, _, mro_cb⟩, madeBy_type mro_cb look_cb (by decide +kernel), by decide +kernel, sub_cb, slot_cb_init⟩
theorem typeCall_cb (a b : Value) : checkTypeCall "itertools.combinations" ⟨[a, b], []⟩ = pure () := by kernel_rfl
theorem newCall_cb (a b : Value) : checkBuiltinCall "itertools.combinations.__new__" ⟨[.type "itertools.combinations", a, b], []⟩ = pure () := by kernel_rfl
theorem entry_cb_new : entryFor table "itertools.combinations.__new__" = some Builtin.«itertools.combinations.__new__» := entryFor_of_tree (by kernel_rfl)
theorem plain_cb_new : plainId "itertools.combinations.__new__" = true := by decide +kernel
theorem slot_cb_iter : Slot "itertools.combinations" "__iter__" "itertools.combinations.__iter__" :=
  .of (owner := "itertools.combinations") (n := "__iter__") (by rw [typeLookup_type, builtinLookup_eq_fast]; kernel_rfl) (by decide +kernel) (by decide +kernel) (by decide +kernel)
    (by first | exact .inl (by decide +kernel) | exact .inr (by decide +kernel)) sub_cb
theorem slot_cb_next : Slot "itertools.combinations" "__next__" "itertools.combinations.__next__" :=
  .of (owner := "itertools.combinations") (n := "__next__") (by rw [typeLookup_type, builtinLookup_eq_fast]; kernel_rfl) (by decide +kernel) (by decide +kernel) (by decide +kernel)
    (by first | exact .inl (by decide +kernel) | exact .inr (by decide +kernel)) sub_cb
theorem entry_cb_iter : entryFor table "itertools.combinations.__iter__" = some Builtin.«dict_keyiterator.__iter__» :=
  entryFor_alias (id' := "dict_keyiterator.__iter__") (by kernel_rfl) (by first | rfl | decide +kernel | (unfold String.splitOn; simp +decide [String.splitOnAux])) (by decide +kernel) (by kernel_rfl)
theorem entry_cb_next : entryFor table "itertools.combinations.__next__" = some Builtin.«itertools.combinations.__next__» := entryFor_of_tree (by kernel_rfl)
theorem owner_cb : Manifest.owners.lookup (String.ofList ['s', 'n', 'o', 'i', 't', 'a', 'n', 'i', 'b', 'm', 'o', 'c', '.', 's', 'l', 'o', 'o', 't', 'r', 'e', 't', 'i'].reverse) = some Manifest.sig_itertools_combinations := by kernel_rfl
theorem args_cb_iter (a : Value) : argsOk "itertools.combinations.__iter__" ⟨[a], []⟩ := by
  unfold argsOk; rw [signature?_of (id := "itertools.combinations.__iter__") (n := ['_', '_', 'r', 'e', 't', 'i', '_', '_']) (o := ['s', 'n', 'o', 'i', 't', 'a', 'n', 'i', 'b', 'm', 'o', 'c', '.', 's', 'l', 'o', 'o', 't', 'r', 'e', 't', 'i']) (by kernel_rfl) owner_cb]; kernel_rfl
theorem args_cb_next (a : Value) : argsOk "itertools.combinations.__next__" ⟨[a], []⟩ := by
  unfold argsOk; rw [signature?_of (id := "itertools.combinations.__next__") (n := ['_', '_', 't', 'x', 'e', 'n', '_', '_']) (o := ['s', 'n', 'o', 'i', 't', 'a', 'n', 'i', 'b', 'm', 'o', 'c', '.', 's', 'l', 'o', 'o', 't', 'r', 'e', 't', 'i']) (by kernel_rfl) owner_cb]; kernel_rfl
theorem noDict_cb : typeHasDict (.type "itertools.combinations") = false := by decide +kernel
def cbF (P : Addr) (st : Int) (res : Value) (idx : List Nat) : Array Value := (Value.ref P :: rawInt st :: res :: idx.map fun (i : Nat) => rawInt i).toArray
abbrev IsCb (h : Heap) (c P : Addr) (st : Int) (res : Value) (idx : List Nat) : Prop := h.get? c = some { cls := .type "itertools.combinations", dict := none, data := .fields (cbF P st res idx), slots := #[] }
end Cb
namespace Cb
/-- the indices behind these -/
def nxt (n : Nat) (v : List Nat) : Option (List Nat) :=
  match ((List.range v.length).reverse.find? fun q => v.getD q 0 != q + n - v.length) with
  | none => none
  | some q => some (v.take q ++ (List.range (v.length - q)).map (v.getD q 0 + 1 + ·))
section
variable {prog : Program} {w : World} {A : Around} {E : Value → Shared → Prop} {s : Shared}
theorem nums_cb (P : Addr) (st : Int) (res : Value) (idx : List Nat) : (((cbF P st res idx).toList.drop 3).map fun v => match v with | .int n _ => n.toNat | _ => 0) = idx := by
  unfold cbF
  simp only [List.drop_succ_cons, List.drop_zero, List.map_map]
  rw [show ((fun v : Value => match v with | .int n _ => n.toNat | _ => 0) ∘ fun (i : Nat) => rawInt (i : Int)) = id from funext fun i => by simp [rawInt]]
  simp
theorem cbF_size (P : Addr) (st : Int) (res : Value) (idx : List Nat) : (cbF P st res idx).size = idx.length + 3 := by unfold cbF; simp
theorem cbF_st {P : Addr} {st st' : Int} {res : Value} {idx : List Nat} : (cbF P st res idx).setIfInBounds 1 (rawInt st') = cbF P st' res idx := by unfold cbF; simp
theorem cbF_res {P : Addr} {st : Int} {res res' : Value} {idx : List Nat} : (cbF P st res idx).setIfInBounds 2 res' = cbF P st res' idx := by unfold cbF; simp
theorem cbF_idx {P : Addr} {st : Int} {res : Value} {idx idx' : List Nat} : (cbF P st res idx).extract 0 3 ++ (idx'.map fun (i : Nat) => rawInt i).toArray = cbF P st res idx' := by unfold cbF; simp
/-- the picked tuple -/
def pickT (items : Array Value) (idx : List Nat) : Obj := { cls := .type "tuple", data := .seq (idx.map fun i => items.getD i .none).toArray }
theorem hand_cb {c P : Addr} {st : Int} {res : Value} {idx ix : List Nat} {items : Array Value} {Q : Value → Shared → Prop}
    (hc : IsCb s.heap c P st res idx) (hP : IsTup s.heap P items) (hl : ix.length ≤ 100)
    (hQ : ∀ h', IsCb h' c P st (.ref s.heap.objs.size) idx → h'.get? s.heap.objs.size = some (pickT items ix) → (∀ b o, b ≠ c → s.heap.get? b = some o → h'.get? b = some o) → h'.objs.size = s.heap.objs.size + 1 →
      Q (.ref s.heap.objs.size) { s with heap := h' }) :
    wpAny (model prog w) A ((Builtin.Itertools.itPoolItems (.ref P) >>= fun xs => newTuple (ix.map fun i => xs.getD i .none)) >>= fun result => field (.ref c) 2 >>= fun before => setField (.ref c) 2 result >>= fun _ => letGo [before] [result] >>= fun _ => ret result)
      (fun fin s' => ∃ v, fin = .done (.ret v) ∧ Q v s') E s := by
  obtain ⟨oP, eP, cP, nP, dP⟩ := id hP
  refine wpAny_bind (wpAny_bind ?_)
  show wpAny _ _ (seqItems? (.ref P) >>= _) _ _ _
  refine wpAny_bind (wpAny_seqItems eP dP (wpAny_pure ?_))
  refine wpAny_newTuple ?_ (by rw [List.length_map, sizeLine_eq]; omega)
  have hlt : c < s.heap.objs.size := Heap.lt_size hc
  have hc1 : IsCb (s.heap.push { cls := .type "tuple", data := .seq (ix.map fun i => items.getD i .none).toArray }) c P st res idx := Heap.get?_push_of_some _ hc
  refine wpAny_bind (wpAny_field hc1 rfl (x := res) rfl ?_)
  refine wpAny_bind (wpAny_setField_rec hc1 (by rw [cbF_size]; omega) fun h2 hc2 hs2 => ?_)
  rw [cbF_res] at hc2
  refine wpAny_bind (wpAny_letGo (wpAny_pure ⟨_, rfl, ?_⟩))
  refine hQ h2 hc2 ?_ (fun b o hb e => (hs2.2 b hb).trans (Heap.get?_push_of_some _ e)) ?_
  · exact (hs2.2 _ (Nat.ne_of_gt hlt)).trans (Heap.get?_push_size _ rfl)
  · rw [hs2.1, Heap.size_push]
theorem next_first {c P : Addr} {res : Value} {idx : List Nat} {items : Array Value} {Q : Value → Shared → Prop}
    (hc : IsCb s.heap c P 0 res idx) (hP : IsTup s.heap P items) (hl : idx.length ≤ 100)
    (hQ : ∀ h', IsCb h' c P 1 (.ref s.heap.objs.size) idx → h'.get? s.heap.objs.size = some (pickT items idx) → (∀ b o, b ≠ c → s.heap.get? b = some o → h'.get? b = some o) → h'.objs.size = s.heap.objs.size + 1 →
      Q (.ref s.heap.objs.size) { s with heap := h' }) (hcP : c ≠ P) :
    wpAny (model prog w) A (Builtin.«itertools.combinations.__next__» ⟨[.ref c], []⟩) (fun fin s' => ∃ v, fin = .done (.ret v) ∧ Q v s') E s := by
  show wpAny _ _ (field (.ref c) 0 >>= _) _ _ _
  refine wpAny_bind (wpAny_field hc rfl (x := .ref P) rfl ?_)
  show wpAny _ _ (Builtin.Itertools.itNumbersFrom (.ref c) 3 >>= _) _ _ _
  refine wpAny_bind ?_
  show wpAny _ _ (load c >>= _) _ _ _
  refine wpAny_bind (wpAny_load hc (wpAny_pure ?_))
  generalize he : List.map _ (List.drop 3 (cbF P 0 res idx).toList) = ix
  have he2 : ix = idx := he.symm.trans (nums_cb P 0 res idx)
  subst he2
  show wpAny _ _ (Builtin.Itertools.itIntField (.ref c) 1 >>= _) _ _ _
  refine wpAny_bind ?_
  show wpAny _ _ (field (.ref c) 1 >>= _) _ _ _
  refine wpAny_bind (wpAny_field hc rfl (x := rawInt 0) rfl (wpAny_pure ?_))
  show wpAny _ _ (setField (.ref c) 1 (rawInt 1) >>= _) _ _ _
  refine wpAny_bind (wpAny_setField_rec hc (by rw [cbF_size]; omega) fun h1 hc1 hs1 => ?_)
  rw [cbF_st] at hc1
  have hP1 : IsTup h1 P items := by
    obtain ⟨o, e, r⟩ := hP
    exact ⟨o, (hs1.2 P hcP.symm).trans e, r⟩
  refine hand_cb hc1 hP1 hl fun h' a1 a2 a3 a4 => ?_
  have ez : h1.objs.size = s.heap.objs.size := hs1.1
  have a1 : IsCb h' c P 1 (.ref h1.objs.size) ix := a1
  have a2 : h'.get? h1.objs.size = some (pickT items ix) := a2
  have a4 : h'.objs.size = h1.objs.size + 1 := a4
  rw [ez] at a1 a2 a4
  show Q (.ref h1.objs.size) _
  rw [ez]
  exact hQ h' a1 a2 (fun b o hb e => a3 b o hb ((hs1.2 b hb).trans e)) a4
theorem next_more {c P : Addr} {res : Value} {idx ix : List Nat} {items : Array Value} {Q : Value → Shared → Prop}
    (hc : IsCb s.heap c P 1 res idx) (hP : IsTup s.heap P items) (hn : nxt items.size idx = some ix) (hl : ix.length ≤ 100)
    (hQ : ∀ h', IsCb h' c P 1 (.ref s.heap.objs.size) ix → h'.get? s.heap.objs.size = some (pickT items ix) → (∀ b o, b ≠ c → s.heap.get? b = some o → h'.get? b = some o) → h'.objs.size = s.heap.objs.size + 1 →
      Q (.ref s.heap.objs.size) { s with heap := h' }) (hcP : c ≠ P) :
    wpAny (model prog w) A (Builtin.«itertools.combinations.__next__» ⟨[.ref c], []⟩) (fun fin s' => ∃ v, fin = .done (.ret v) ∧ Q v s') E s := by
  obtain ⟨oP, eP, cP, nP, dP⟩ := id hP
  show wpAny _ _ (field (.ref c) 0 >>= _) _ _ _
  refine wpAny_bind (wpAny_field hc rfl (x := .ref P) rfl ?_)
  show wpAny _ _ (Builtin.Itertools.itNumbersFrom (.ref c) 3 >>= _) _ _ _
  refine wpAny_bind ?_
  show wpAny _ _ (load c >>= _) _ _ _
  refine wpAny_bind (wpAny_load hc (wpAny_pure ?_))
  generalize he : List.map _ (List.drop 3 (cbF P 1 res idx).toList) = iy
  have he2 : iy = idx := he.symm.trans (nums_cb P 1 res idx)
  subst he2
  show wpAny _ _ (Builtin.Itertools.itIntField (.ref c) 1 >>= _) _ _ _
  refine wpAny_bind ?_
  show wpAny _ _ (field (.ref c) 1 >>= _) _ _ _
  refine wpAny_bind (wpAny_field hc rfl (x := rawInt 1) rfl (wpAny_pure ?_))
  show wpAny _ _ (Builtin.Itertools.itPoolItems (.ref P) >>= _) _ _ _
  refine wpAny_bind ?_
  show wpAny _ _ (seqItems? (.ref P) >>= _) _ _ _
  refine wpAny_bind (wpAny_seqItems eP dP (wpAny_pure ?_))
  split
  · rename_i iz hz
    have hz2 : nxt items.size iy = some iz := hz
    rw [hn] at hz2
    obtain rfl := Option.some.inj hz2
    show wpAny _ _ (updateFields c _ >>= _) _ _ _
    refine wpAny_bind (wpAny_updateFields hc rfl ?_ ?_)
    · have hs1 := Heap.SameBut.update s.heap c (Obj.mapFields fun fs => fs.extract 0 3 ++ (ix.map fun (n : Nat) => rawInt n).toArray)
      have hc1 : IsCb (s.heap.update c (Obj.mapFields fun fs => fs.extract 0 3 ++ (ix.map fun (n : Nat) => rawInt n).toArray)) c P 1 res ix := by
        have := Heap.get?_update_self (Obj.mapFields fun fs => fs.extract 0 3 ++ (ix.map fun (n : Nat) => rawInt n).toArray) hc rfl
        refine this.trans ?_
        show some ({ cls := .type "itertools.combinations", dict := none, data := .fields ((cbF P 1 res iy).extract 0 3 ++ (ix.map fun (n : Nat) => rawInt n).toArray), slots := #[] } : Obj) = _
        rw [cbF_idx]
      generalize s.heap.update c _ = h1 at *
      have hP1 : IsTup h1 P items := by
        obtain ⟨o, e, r⟩ := hP
        exact ⟨o, (hs1.2 P hcP.symm).trans e, r⟩
      refine hand_cb hc1 hP1 hl fun h' a1 a2 a3 a4 => ?_
      have ez : h1.objs.size = s.heap.objs.size := hs1.1
      have a1 : IsCb h' c P 1 (.ref h1.objs.size) ix := a1
      have a2 : h'.get? h1.objs.size = some (pickT items ix) := a2
      have a4 : h'.objs.size = h1.objs.size + 1 := a4
      rw [ez] at a1 a2 a4
      show Q (.ref h1.objs.size) _
      rw [ez]
      exact hQ h' a1 a2 (fun b o hb e => a3 b o hb ((hs1.2 b hb).trans e)) a4
    · rw [cbF_idx, cbF_size, sizeLine_eq]
      omega
  · rename_i hz
    have hz2 : nxt items.size iy = none := hz
    rw [hn] at hz2
    cases hz2
theorem next_end {c P : Addr} {res : Value} {idx : List Nat} {items : Array Value} {Q : Fin → Shared → Prop}
    (hh : A.handled = none) (hc : IsCb s.heap c P 1 res idx) (hP : IsTup s.heap P items) (hn : nxt items.size idx = none)
    (hE : ∀ h' e, (∀ b o, b ≠ c → s.heap.get? b = some o → h'.get? b = some o) → (∃ o, h'.get? e = some o ∧ o.cls = .type "StopIteration") → E (.ref e) { s with heap := h' }) :
    wpAny (model prog w) A (Builtin.«itertools.combinations.__next__» ⟨[.ref c], []⟩) Q E s := by
  obtain ⟨oP, eP, cP, nP, dP⟩ := id hP
  show wpAny _ _ (field (.ref c) 0 >>= _) _ _ _
  refine wpAny_bind (wpAny_field hc rfl (x := .ref P) rfl ?_)
  show wpAny _ _ (Builtin.Itertools.itNumbersFrom (.ref c) 3 >>= _) _ _ _
  refine wpAny_bind ?_
  show wpAny _ _ (load c >>= _) _ _ _
  refine wpAny_bind (wpAny_load hc (wpAny_pure ?_))
  generalize he : List.map _ (List.drop 3 (cbF P 1 res idx).toList) = iy
  have he2 : iy = idx := he.symm.trans (nums_cb P 1 res idx)
  subst he2
  show wpAny _ _ (Builtin.Itertools.itIntField (.ref c) 1 >>= _) _ _ _
  refine wpAny_bind ?_
  show wpAny _ _ (field (.ref c) 1 >>= _) _ _ _
  refine wpAny_bind (wpAny_field hc rfl (x := rawInt 1) rfl (wpAny_pure ?_))
  show wpAny _ _ (Builtin.Itertools.itPoolItems (.ref P) >>= _) _ _ _
  refine wpAny_bind ?_
  show wpAny _ _ (seqItems? (.ref P) >>= _) _ _ _
  refine wpAny_bind (wpAny_seqItems eP dP (wpAny_pure ?_))
  split
  · rename_i iz hz
    have hz2 : nxt items.size iy = some iz := hz
    rw [hn] at hz2
    cases hz2
  · refine wpAny_bind (wpAny_setField_rec hc (by rw [cbF_size]; omega) fun h1 hc1 hs1 => ?_)
    show wpAny _ _ (newExc (.type "StopIteration") [] >>= _) _ _ _
    refine wpAny_bind ?_
    simp only [newExc, newTuple]
    refine wpAny_bind (wpAny_newObj_type ?_ (by size_fits))
    refine wpAny_bind (m := firstArgMember _ _) (wpAny_of_eq (a := Value.none) (by first | rfl | (simp only [firstArgMember]; rfl)) ?_)
    refine wpAny_newObj_type ?_ (by size_fits)
    simp only [raiseNew]
    refine wpAny_bind (wpAny_handled ?_)
    first | rw [show A.in1.handled = none from hh] | rw [hh]
    refine wpAny_bind (wpAny_pure (wpAny_throw ?_))
    exact hE _ _ (fun b o hb e => Heap.get?_push_of_some _ (Heap.get?_push_of_some _ ((hs1.2 b hb).trans e))) ⟨_, Heap.get?_push_size _ rfl, rfl⟩
theorem next_over {c P : Addr} {res : Value} {idx : List Nat} {Q : Fin → Shared → Prop}
    (hh : A.handled = none) (hc : IsCb s.heap c P 2 res idx)
    (hE : ∀ h' e, (∀ b o, b ≠ c → s.heap.get? b = some o → h'.get? b = some o) → (∃ o, h'.get? e = some o ∧ o.cls = .type "StopIteration") → E (.ref e) { s with heap := h' }) :
    wpAny (model prog w) A (Builtin.«itertools.combinations.__next__» ⟨[.ref c], []⟩) Q E s := by
  show wpAny _ _ (field (.ref c) 0 >>= _) _ _ _
  refine wpAny_bind (wpAny_field hc rfl (x := .ref P) rfl ?_)
  show wpAny _ _ (Builtin.Itertools.itNumbersFrom (.ref c) 3 >>= _) _ _ _
  refine wpAny_bind ?_
  show wpAny _ _ (load c >>= _) _ _ _
  refine wpAny_bind (wpAny_load hc (wpAny_pure ?_))
  show wpAny _ _ (Builtin.Itertools.itIntField (.ref c) 1 >>= _) _ _ _
  refine wpAny_bind ?_
  show wpAny _ _ (field (.ref c) 1 >>= _) _ _ _
  refine wpAny_bind (wpAny_field hc rfl (x := rawInt 2) rfl (wpAny_pure ?_))
  show wpAny _ _ (rule "itertools.combinations.ended" >>= _) _ _ _
  refine wpAny_bind (wpAny_rule ?_)
  show wpAny _ _ (newExc (.type "StopIteration") [] >>= _) _ _ _
  refine wpAny_bind ?_
  simp only [newExc, newTuple]
  refine wpAny_bind (wpAny_newObj_type ?_ (by size_fits))
  refine wpAny_bind (m := firstArgMember _ _) (wpAny_of_eq (a := Value.none) (by first | rfl | (simp only [firstArgMember]; rfl)) ?_)
  refine wpAny_newObj_type ?_ (by size_fits)
  simp only [raiseNew]
  refine wpAny_bind (wpAny_handled ?_)
  first | rw [show A.in1.handled = none from hh] | rw [hh]
  refine wpAny_bind (wpAny_pure (wpAny_throw ?_))
  exact hE _ _ (fun b o hb e => Heap.get?_push_of_some _ (Heap.get?_push_of_some _ e)) ⟨_, Heap.get?_push_size _ rfl, rfl⟩
end
end Cb
namespace Cb
section
variable {prog : Program} {w : World} {A : Around} {E : Value → Shared → Prop} {s : Shared}
/-- what collecting the items at r gives -/
def Col (prog : Program) (w : World) (s : Shared) (r : Addr) (Pa : Array Value → Prop) : Prop :=
  ∀ (A' : Around) (Q : List Value → Shared → Prop) (E : Value → Shared → Prop), A'.handled = none →
    (∀ (h' : Heap) (tk : Nat) (acc : Array Value), (∀ b o, s.heap.get? b = some o → h'.get? b = some o) → Pa acc → Q acc.toList { s with heap := h', toks := tk }) → wpAny (model prog w) A' (collect (.ref r)) Q E s
theorem new_cb {Q₁ : Value → Shared → Prop} {r : Addr} {k : Nat} {kt : Tok} {Pa : Array Value → Prop} (hh : A.handled = none) (hk : k ≤ 100) (hcol : Col prog w s r Pa) (hP : ∀ acc, Pa acc → acc.size ≤ 2 ^ 24)
    (h : ∀ (h' : Heap) (tk : Nat) (acc : Array Value), (∀ b o, s.heap.get? b = some o → h'.get? b = some o) → Pa acc →
      Q₁ (.ref (h'.objs.size + 1)) { s with heap := (h'.push { cls := .type "tuple", data := .seq acc }).push { cls := .type "itertools.combinations", data := .fields (cbF h'.objs.size (if k > acc.size then 2 else 0) .none (List.range k)) }, toks := tk }) :
    codeAny (model prog w) A (.call (.builtin "itertools.combinations.__new__") ⟨[.type "itertools.combinations", .ref r, .int k kt], []⟩) (wants Q₁ E) s := by
  refine codeAny_of_tree ?_
  show wpAny _ A.in1 (do checkBuiltinCall "itertools.combinations.__new__" ⟨[.type "itertools.combinations", .ref r, .int k kt], []⟩; again (.builtin "itertools.combinations.__new__" ⟨[.type "itertools.combinations", .ref r, .int k kt], []⟩)) _ _ s
  refine wpAny_bind (wpAny_of_eq (newCall_cb _ _) (wpAny_pure ⟨plainId_quiet plain_cb_new _, codeAny_builtin entry_cb_new ?_⟩))
  rw [Around.under_plainId plain_cb_new _]
  have hsub := sub_cb
  have hd := noDict_cb
  have hh1 : A.in1.handled = none := hh
  have hcol1 := fun Q E => hcol A.in1 Q E hh1
  have hT : ("itertools." ++ "combinations" : String) = "itertools.combinations" := by decide
  have h1 : ¬ ((decide ((k : Int) < -(2 ^ 63 : Int)) || decide ((k : Int) ≥ (2 ^ 63 : Int))) = true) := by
    rw [decide_eq_false (by omega), decide_eq_false (by omega)]
    decide
  have h2 : ¬ ((k : Int) < 0) := by omega
  have h3 : ¬ (Builtin.Itertools.itTooMany (k : Int) = true) := by
    unfold Builtin.Itertools.itTooMany
    rw [decide_eq_false (by omega)]
    decide
  repeat (first
      | (refine hcol1 _ _ fun h' tk acc hk' hacc => ?_)
      | wp_step
      | simp only [hT]
      | simp only [List.head?_cons, Option.some_or, List.getElem?_cons_succ, List.getElem?_cons_zero, List.length_cons, List.length_nil, List.forIn_nil]
      | (refine wpAny_ite_false (decide_eq_false h1) ?_)
      | (refine wpAny_ite_false (decide_eq_false h2) ?_)
      | (refine wpAny_ite_false (decide_eq_false h3) ?_))
  have hs : acc.toList.toArray.size ≤ sizeLine := by
    have := hP acc hacc
    rw [Array.toArray_toList, sizeLine_eq]
    omega
  refine wpAny_ite_false (decide_eq_false (Nat.not_lt.mpr hs)) ?_
  refine wpAny_newObjAsIs_type ?_
  rw [Array.toArray_toList]
  refine wpAny_pure ?_
  show wpAny _ _ (Builtin.Itertools.itNewRecord (.type "itertools.combinations") ([.ref h'.objs.size, rawInt (if (k : Int).toNat > acc.toList.length then 2 else 0), .none] ++ (List.range (k : Int).toNat).map fun (i : Nat) => rawInt i) >>= fun v => ret v) _ _ _
  rw [Int.toNat_natCast, Array.length_toList]
  refine wpAny_bind ?_
  unfold Builtin.Itertools.itNewRecord
  rw [hd]
  show wpAny _ _ (newObj (.type "itertools.combinations") (.fields (cbF h'.objs.size (if k > acc.size then 2 else 0) .none (List.range k)))) _ _ _
  refine wpAny_newObj_type ?_ (by first | exact trivial | (show (cbF _ _ _ _).size ≤ _; rw [cbF_size, List.length_range]; first | omega | (rw [sizeLine_eq]; omega)))
  refine wpAny_pure ?_
  have hz1 : (h'.push { cls := .type "tuple", data := .seq acc }).objs.size = h'.objs.size + 1 := Heap.size_push ..
  show Q₁ (.ref (h'.push { cls := .type "tuple", data := .seq acc }).objs.size) _
  rw [hz1]
  exact h h' tk acc hk' hacc
end
end Cb
namespace Cb
section
variable {prog : Program} {w : World} {A : Around} {E : Value → Shared → Prop} {s : Shared}
theorem pyIter_cb {c P : Addr} {st : Int} {res : Value} {idx : List Nat} {Q : Value → Shared → Prop} (hc : IsCb s.heap c P st res idx) (h : Q (.ref c) s) : wpAny (model prog w) A (pyIter (.ref c)) Q E s := by
  have hT : s.TypeIs (.ref c) "itertools.combinations" := ⟨_, hc, rfl⟩
  refine wpAny_pyIter_slot hT slot_cb_iter (wpAny_call_entry slot_cb_iter hT entry_cb_iter ?_ (args_cb_iter _))
  show wpAny _ _ (ret (.ref c)) _ _ s
  exact wpAny_pure ⟨_, rfl, "itertools.combinations", _, hT, slot_cb_next.lookup, h⟩
theorem pyNext_item {c : Addr} {Q : Option Value → Shared → Prop} (hT : s.TypeIs (.ref c) "itertools.combinations")
    (h : wpAny (model prog w) A.in1 (Builtin.«itertools.combinations.__next__» ⟨[.ref c], []⟩) (fun fin s' => ∃ v, fin = .done (.ret v) ∧ Q (some v) s') (fun _ _ => False) s) :
    wpAny (model prog w) A (pyNext (.ref c)) Q E s := by
  unfold pyNext
  refine wpAny_bind (wpAny_attempt (wpAny_callSpecial?_slot (name := Str.ofString "__next__") hT slot_cb_next (wpAny_call_entry slot_cb_next hT entry_cb_next (wpAny_mono h (fun fin s' q => ?_) (fun e s' q => q.elim)) (args_cb_next _))))
  obtain ⟨v, rfl, q⟩ := q
  exact ⟨v, rfl, wpAny_pure q⟩
theorem pyNext_end {c : Addr} {Q : Option Value → Shared → Prop} (hT : s.TypeIs (.ref c) "itertools.combinations")
    (h : wpAny (model prog w) A.in1 (Builtin.«itertools.combinations.__next__» ⟨[.ref c], []⟩) (fun _ _ => False) (fun e s' => ∃ a, e = .ref a ∧ (∃ o, s'.heap.get? a = some o ∧ o.cls = .type "StopIteration") ∧ Q none s') s) :
    wpAny (model prog w) A (pyNext (.ref c)) Q E s := by
  unfold pyNext
  refine wpAny_bind (wpAny_attempt (wpAny_callSpecial?_slot (name := Str.ofString "__next__") hT slot_cb_next (wpAny_call_entry slot_cb_next hT entry_cb_next (wpAny_mono h (fun fin s' q => q.elim) (fun e s' q => ?_)) (args_cb_next _))))
  obtain ⟨a, rfl, ⟨o, ho, hc⟩, q⟩ := q
  refine wpAny_bind (wpAny_isInstance (T := "StopIteration") (b := true) ⟨o, ho, hc⟩ isSubtype_stop ?_)
  exact wpAny_pure q
end
/-- the rows of places, in their order -/
structure CbL (n k : Nat) (L : List (List Nat)) : Prop where
  zero : n < k → L = []
  first : k ≤ n → L[0]? = some (List.range k)
  step : ∀ i v, L[i]? = some v → nxt n v = L[i + 1]?
  len : ∀ v ∈ L, v.length = k
def pickV (vs : List V) (ix : List Nat) : List V := ix.map fun j => vs.getD j .non
theorem vals_pick {vs : List V} {its : List Value} (h : Vals vs its) : ∀ ix : List Nat, Vals (pickV vs ix) (ix.map fun i => its.toArray.getD i .none)
  | [] => .nil
  | j :: ix => by
    refine .cons ?_ (vals_pick h ix)
    have hl := h.length
    show RelV (vs.getD j .non) (its.toArray.getD j .none)
    by_cases hj : j < vs.length
    · obtain ⟨u, hu, ru⟩ := h.get (List.getElem?_eq_getElem hj)
      have e1 : vs.getD j .non = vs[j] := by simp [List.getD_eq_getElem?_getD, List.getElem?_eq_getElem hj]
      have e2 : its.toArray.getD j .none = u := by simp [Array.getD_eq_getD_getElem?, hu]
      rw [e1, e2]
      exact ru
    · have e1 : vs.getD j .non = .non := by simp [List.getD_eq_getElem?_getD, List.getElem?_eq_none (Nat.le_of_not_lt hj)]
      have hj2 : its.length ≤ j := by omega
      have e2 : its.toArray.getD j .none = .none := by simp [Array.getD_eq_getD_getElem?, List.getElem?_eq_none hj2]
      rw [e1, e2]
      rfl
/-- the tuples of these places of vs, each new -/
def ItC (vs : List V) (L : List (List Nat)) : It :=
  ⟨fun i _ => i < L.length, fun i H v H' => ∃ T ix, L[i]? = some ix ∧ v = .ref T ∧ H T = none ∧ H' = upd H T (.tup (pickV vs ix)), fun i _ => L.length ≤ i⟩
def CbSt (c P : Addr) (its : List Value) (n k : Nat) (L : List (List Nat)) (i : Nat) (h : Heap) : Prop :=
  c ≠ P ∧ IsTup h P its.toArray ∧ ((n < k ∧ ∃ res ix, IsCb h c P 2 res ix) ∨ (k ≤ n ∧ ((i = 0 ∧ ∃ res, IsCb h c P 0 res (List.range k)) ∨ ∃ res ix j, i = j + 1 ∧ L[j]? = some ix ∧ IsCb h c P 1 res ix)))
theorem cbSt_at {c P : Addr} {its : List Value} {n k : Nat} {L : List (List Nat)} {i : Nat} {h : Heap} (st : CbSt c P its n k L i h) : ∃ (sv : Int) (res : Value) (ix : List Nat), IsCb h c P sv res ix := by
  obtain ⟨_, _, ⟨_, res, ix, e⟩ | ⟨_, ⟨_, res, e⟩ | ⟨res, ix, _, _, _, e⟩⟩⟩ := st
  · exact ⟨_, _, _, e⟩
  · exact ⟨_, _, _, e⟩
  · exact ⟨_, _, _, e⟩
theorem turn_cb {P : Program} {w : World} {K : PySem.W.Frag} {tg : Expr} {c p : Addr} {vs : List V} {its : List Value} {k : Nat} {L : List (List Nat)} (hv : Vals vs its) (hL : CbL vs.length k L) (hk : k ≤ 100) :
    Turn P w K tg (ItC vs L) [c, p] c (CbSt c p its vs.length k L) where
  mem := by simp
  obj := fun i h st b hb => by
    obtain ⟨sv, res, ix, e⟩ := cbSt_at st
    obtain ⟨_, ⟨o, e2, _, n, d2⟩, _⟩ := st
    have e' : b = c ∨ b = p := by simpa using hb
    rcases e' with q | q
    · rw [q]; exact ⟨_, e, fun v q => nomatch q⟩
    · rw [q]; exact ⟨o, e2, fun v q => by rw [d2] at q; cases q⟩
  keep := fun i h h' st hk => by
    obtain ⟨n1, ⟨o, e2, r2⟩, st⟩ := st
    refine ⟨n1, ⟨o, hk p (by simp) _ e2, r2⟩, ?_⟩
    rcases st with ⟨z, res, ix, e⟩ | ⟨z, ⟨z2, res, e⟩ | ⟨res, ix, j, z2, z3, e⟩⟩
    · exact .inl ⟨z, res, ix, hk c (by simp) _ e⟩
    · exact .inr ⟨z, .inl ⟨z2, res, hk c (by simp) _ e⟩⟩
    · exact .inr ⟨z, .inr ⟨res, ix, j, z2, z3, hk c (by simp) _ e⟩⟩
  item := by
    intro X hP hw hK hc i pins s σ H E I hf st hg
    subst hP hw hK
    have hg : i < L.length := hg
    have hvl := hv.length
    obtain ⟨sv, res0, ix0, e0⟩ := cbSt_at st
    have hT : s.TypeIs (.ref c) "itertools.combinations" := ⟨_, e0, rfl⟩
    have hlt : c < s.heap.objs.size := Heap.lt_size e0
    obtain ⟨n1, ht, st⟩ := st
    have hplt : p < s.heap.objs.size := ht.lt
    refine pyNext_item hT ?_
    have fin : ∀ ix h', L[i]? = some ix → IsCb h' c p 1 (.ref s.heap.objs.size) ix → h'.get? s.heap.objs.size = some (pickT its.toArray ix) → (∀ b o, b ≠ c → s.heap.get? b = some o → h'.get? b = some o) → h'.objs.size = s.heap.objs.size + 1 →
        ∃ u, some (Value.ref s.heap.objs.size) = some u ∧
          wpAny (model X.prog X.w) X.A (letOwnedTupleGo tg (.ref c) u) (fun _ s2 => ∃ x H', Inv X pins σ H' s2 ∧ RelV x u ∧ (ItC vs L).yld i H x H' ∧ CbSt c p its vs.length k L (i + 1) s2.heap ∧ ∀ b ∈ [c, p], H' b = none) E { s with heap := h' } := by
      intro ix h' hi a1 a2 a3 a4
      have hix : ix.length = k := hL.len ix (List.mem_of_getElem? hi)
      have hkn : k ≤ vs.length := by
        rcases Nat.lt_or_ge vs.length k with z | z
        · rw [hL.zero z] at hi; cases hi
        · exact z
      have new : ObjOk X.prog X.w (upd H s.heap.objs.size (.tup (pickV vs ix))) h' s.heap.objs.size (.tup (pickV vs ix)) :=
        ⟨by unfold pickV; rw [List.length_map, sizeLine_eq]; omega, _, vals_pick hv ix, ⟨_, a2, rfl, _, rfl⟩⟩
      have I1 : Inv X pins σ (upd H s.heap.objs.size (.tup (pickV vs ix))) { s with heap := h' } :=
        I.turnedNew (t' := s.toks) (ch := [c, p]) (fun b o hb q => a3 b o (fun q' => hb (by simp [q'])) q) hf (Nat.le_refl _) new
      refine ⟨_, rfl, go_of (s := { s with heap := h' }) (n := "itertools.combinations") a1 rfl rfl (by decide) ⟨.ref s.heap.objs.size, _, I1, rfl, ⟨_, ix, hi, rfl, I.hok.fresh (Nat.le_refl _), rfl⟩, ⟨n1, ?_, .inr ⟨hkn, .inr ⟨_, ix, i, rfl, hi, a1⟩⟩⟩, fun b hb => ?_⟩⟩
      · obtain ⟨o, e, r⟩ := ht
        exact ⟨o, a3 p o n1.symm e, r⟩
      · have hbl : b < s.heap.objs.size := by
          have e' : b = c ∨ b = p := by simpa using hb
          rcases e' with q | q
          · rw [q]; exact hlt
          · rw [q]; exact hplt
        rw [upd_ne (Nat.ne_of_lt hbl)]
        exact (hf b hb).1
    rcases st with ⟨z, _⟩ | ⟨z, ⟨z2, res, e⟩ | ⟨res, ix, j, z2, z3, e⟩⟩
    · rw [hL.zero z] at hg
      exact absurd hg (Nat.not_lt_zero _)
    · subst z2
      refine next_first (Q := fun v s' => (fun r s1 => ∃ u, r = some u ∧ wpAny (model X.prog X.w) X.A (letOwnedTupleGo tg (.ref c) u) (fun _ s2 => ∃ x H', Inv X pins σ H' s2 ∧ RelV x u ∧ (ItC vs L).yld 0 H x H' ∧ CbSt c p its vs.length k L (0 + 1) s2.heap ∧ ∀ b ∈ [c, p], H' b = none) E s1) (some v) s') e ht (by rw [List.length_range]; omega) (fun h' a1 a2 a3 a4 => fin _ h' (hL.first z) a1 a2 a3 a4) n1
    · subst z2
      have hs := hL.step j ix z3
      rw [List.getElem?_eq_getElem hg] at hs
      have hsz : its.toArray.size = vs.length := by rw [List.size_toArray, hvl]
      refine next_more (Q := fun v s' => (fun r s1 => ∃ u, r = some u ∧ wpAny (model X.prog X.w) X.A (letOwnedTupleGo tg (.ref c) u) (fun _ s2 => ∃ x H', Inv X pins σ H' s2 ∧ RelV x u ∧ (ItC vs L).yld (j + 1) H x H' ∧ CbSt c p its vs.length k L (j + 1 + 1) s2.heap ∧ ∀ b ∈ [c, p], H' b = none) E s1) (some v) s') (ix := L[j + 1]) e ht (by rw [hsz]; exact hs) (by rw [hL.len _ (List.getElem_mem hg)]; omega) (fun h' a1 a2 a3 a4 => fin _ h' (List.getElem?_eq_getElem hg) a1 a2 a3 a4) n1
  done := by
    intro X hP hw hK hc i pins s σ H E I hf st hg
    subst hP hw hK
    have hg : L.length ≤ i := hg
    have hvl := hv.length
    obtain ⟨sv, res0, ix0, e0⟩ := cbSt_at st
    have hT : s.TypeIs (.ref c) "itertools.combinations" := ⟨_, e0, rfl⟩
    obtain ⟨n1, ht, st⟩ := st
    have hh : X.A.in1.handled = none := I.ok.hd hc
    refine pyNext_end hT ?_
    have fin : ∀ (h' : Heap), (∀ b o, b ≠ c → s.heap.get? b = some o → h'.get? b = some o) → (none : Option Value) = none ∧ Inv X pins σ H { s with heap := h' } := fun h' hk =>
      ⟨rfl, I.turnedL (t' := s.toks) (ch := [c, p]) (fun b o hb q => hk b o (fun q' => hb (by simp [q'])) q) hf⟩
    rcases st with ⟨z, res, ix, e⟩ | ⟨z, ⟨z2, res, e⟩ | ⟨res, ix, j, z2, z3, e⟩⟩
    · exact next_over hh e fun h' a hk ha => ⟨a, rfl, ha, fin h' hk⟩
    · subst z2
      have := hL.first z
      rw [List.getElem?_eq_none hg] at this
      cases this
    · subst z2
      have hs := hL.step j ix z3
      rw [List.getElem?_eq_none hg] at hs
      have hsz : its.toArray.size = vs.length := by rw [List.size_toArray, hvl]
      exact next_end hh e ht (by rw [hsz]; exact hs) fun h' a hk ha => ⟨a, rfl, ha, fin h' hk⟩
  self := fun A i s Q E st h => by
    obtain ⟨sv, res, ix, e⟩ := cbSt_at st
    exact pyIter_cb e h
end Cb
namespace Cb
def iCbRg (te : L2.St → Hp → (Int → Int → Hp → Prop) → Prop) (k : Nat) : TI := fun σ H R => te σ H fun a b H1 => RgOk a b ∧ ∃ L, CbL (b - a).toNat k L ∧ R (ItC (rgV a b) L) H1
def iCbL (K : PySem.W.Frag) (te : TE) (k : Nat) : TI := fun σ H R => te σ H fun x H1 => ∃ a xs, x = .ref a ∧ SqL K H1 a xs ∧ xs.length ≤ 1000 ∧ ∃ L, CbL xs.length k L ∧ R (ItC xs L) H1
section
variable {X : Cx}
/-- the record once made -/
theorem made_cb {tg : Expr} {pins : List (Addr × Obj)} {σ : L2.St} {H1 : Hp} {s2 : Shared} {R : It → Hp → Prop} {vs : List V} {acc : Array Value} {k : Nat} {L : List (List Nat)} {h' : Heap} {tk : Nat} (I : Inv X pins σ H1 s2) (hk : k ≤ 100)
    (kp : ∀ b o, s2.heap.get? b = some o → h'.get? b = some o) (hv : Vals vs acc.toList) (hL : CbL vs.length k L) (q : R (ItC vs L) H1) :
    (Shared.TypeIs { s2 with heap := (h'.push { cls := .type "tuple", data := .seq acc }).push { cls := .type "itertools.combinations", data := .fields (cbF h'.objs.size (if k > acc.size then 2 else 0) .none (List.range k)) }, toks := tk } (.ref (h'.objs.size + 1)) "itertools.combinations") ∧
    wpAny (model X.prog X.w) X.A (pyIter (.ref (h'.objs.size + 1))) (PIE X pins σ tg R) X.xe { s2 with heap := (h'.push { cls := .type "tuple", data := .seq acc }).push { cls := .type "itertools.combinations", data := .fields (cbF h'.objs.size (if k > acc.size then 2 else 0) .none (List.range k)) }, toks := tk } := by
  have hz1 : (h'.push { cls := .type "tuple", data := .seq acc }).objs.size = h'.objs.size + 1 := Heap.size_push ..
  have g1 : ((h'.push { cls := .type "tuple", data := .seq acc }).push { cls := .type "itertools.combinations", data := .fields (cbF h'.objs.size (if k > acc.size then 2 else 0) .none (List.range k)) }).get? (h'.push { cls := .type "tuple", data := .seq acc }).objs.size = some _ := Heap.get?_push_size _ rfl
  rw [hz1] at g1
  have g2 : ((h'.push { cls := .type "tuple", data := .seq acc }).push { cls := .type "itertools.combinations", data := .fields (cbF h'.objs.size (if k > acc.size then 2 else 0) .none (List.range k)) }).get? h'.objs.size = some _ := Heap.get?_push_of_some _ (Heap.get?_push_size _ rfl)
  have kp2 : ∀ b o, s2.heap.get? b = some o → ((h'.push { cls := .type "tuple", data := .seq acc }).push { cls := .type "itertools.combinations", data := .fields (cbF h'.objs.size (if k > acc.size then 2 else 0) .none (List.range k)) }).get? b = some o := fun b o e => Heap.get?_push_of_some _ (Heap.get?_push_of_some _ (kp b o e))
  have I1 : Inv X pins σ H1 { s2 with heap := h', toks := tk } := I.kept kp
  have I2 : Inv X pins σ H1 { s2 with heap := (h'.push { cls := .type "tuple", data := .seq acc }).push { cls := .type "itertools.combinations", data := .fields (cbF h'.objs.size (if k > acc.size then 2 else 0) .none (List.range k)) }, toks := tk } := I.kept kp2
  have hvl : vs.length = acc.size := by rw [hv.length, Array.length_toList]
  refine ⟨⟨_, g1, rfl⟩, pyIter_cb g1 ⟨h'.objs.size + 1, [h'.objs.size + 1, h'.objs.size], CbSt (h'.objs.size + 1) h'.objs.size acc.toList vs.length k L, ItC vs L, H1, rfl, I2, turn_cb hv hL hk, ⟨Nat.succ_ne_self _, ⟨_, g2, rfl, 0, by rw [Array.toArray_toList]⟩, ?_⟩, fun b hb => ?_, q⟩⟩
  · by_cases hz : k > acc.size
    · exact .inl ⟨by omega, _, _, g1.trans (by rw [if_pos hz])⟩
    · exact .inr ⟨by omega, .inl ⟨rfl, _, g1.trans (by rw [if_neg hz])⟩⟩
  · have e' : b = h'.objs.size + 1 ∨ b = h'.objs.size := by simpa using hb
    have hle : h'.objs.size ≤ b := by
      rcases e' with z | z
      · rw [z]; exact Nat.le_succ _
      · rw [z]; exact Nat.le_refl _
    exact I1.fpOk hle (I1.hok.fresh hle)
theorem pi_cbRg {tg e : Expr} {te : L2.St → Hp → (Int → Int → Hp → Prop) → Prop} {k j : Nat} {p pos cpos : Pos} (hk : k ≤ 100) (hc : X.calm = true) (hg : Gl X "combinations") (hm : X.mg "combinations" = some (.type "itertools.combinations")) (he : PRg X e te)
    (hs : starEach [e, .Constant (.int k) j cpos] X.env = (false, eval e X.env) :: starEach [.Constant (.int k) j cpos] X.env := by rfl) (hs2 : starEach [.Constant (.int k) j cpos] X.env = (false, eval (.Constant (.int k) j cpos) X.env) :: starEach [] X.env := by rfl)
    (hpl : (backTo pos (starEach [.Constant (.int k) j cpos] X.env)).any (·.1) = false := by rfl) : PI X tg (.Call (.Name "combinations" p) [e, .Constant (.int k) j cpos] [] pos) (iCbRg te k) := by
  refine ⟨fun pins s σ H R I h => ?_⟩
  refine wpAny_Call_Name_kw (ld_glob I hg hm (callWith_type1 (args_cons (thn (he pins s σ H _ I h) fun x s1 ⟨r, a, b, t, u, v, H1, ex, hr, I1, ok, L, hL, q⟩ => args_cons (wpAny_Constant_int (args_nil ?_)) hs2) hs) hs hpl))
  subst ex
  obtain ⟨b1, b2, b3, b4, b5⟩ := ok
  have I2 : Inv X pins σ H1 { s1 with toks := s1.toks + 1 } := I1.tok _
  have hh : X.A.handled = none := I1.ok.hd hc
  refine callType_codes (Q₁ := fun obj s₁ => s₁.TypeIs obj "itertools.combinations" ∧ wpAny (model X.prog X.w) X.A (pyIter obj) (PIE X pins σ tg R) X.xe s₁) called_cb (typeCall_cb _ _) F.entry_object_init
    (new_cb (A := X.A.in1) (Pa := fun acc => ItemsOf (fun i v => ∃ t, v = .int (a + i * 1) t) acc (b - a).toNat) hh hk (fun A' Q E hh' h => collect_range hh' hr (small_one b1 b2 b3 b4) (rangeSize_nat a b) b5 h) (fun acc ha => by rw [ha.1]; exact b5)
      fun h' tk acc kp ha => made_cb I2 hk kp (vals_rg ha) (by rw [rgV_length]; exact hL) q) fun obj s₁ h₁ => ?_
  exact ⟨h₁.1, F.args_object_init_3 obj _ _, object_init_meets called_cb.init.lookup called_cb.made (by decide) X.prog X.w X.A.in1 _ s₁ ⟨h₁.1, rfl, h₁.2⟩⟩
theorem pi_cbL {tg e : Expr} {te : TE} {k j : Nat} {p pos cpos : Pos} (hk : k ≤ 100) (hc : X.calm = true) (hg : Gl X "combinations") (hm : X.mg "combinations" = some (.type "itertools.combinations")) (he : PE X e te)
    (hs : starEach [e, .Constant (.int k) j cpos] X.env = (false, eval e X.env) :: starEach [.Constant (.int k) j cpos] X.env := by rfl) (hs2 : starEach [.Constant (.int k) j cpos] X.env = (false, eval (.Constant (.int k) j cpos) X.env) :: starEach [] X.env := by rfl)
    (hpl : (backTo pos (starEach [.Constant (.int k) j cpos] X.env)).any (·.1) = false := by rfl) : PI X tg (.Call (.Name "combinations" p) [e, .Constant (.int k) j cpos] [] pos) (iCbL X.K te k) := by
  refine ⟨fun pins s σ H R I h => ?_⟩
  refine wpAny_Call_Name_kw (ld_glob I hg hm (callWith_type1 (args_cons (thn (he.run pins s σ H _ I h) fun x s1 ⟨v, H1, I1, rv, a, xs, ex, hq, hlen, L, hL, q⟩ => args_cons (wpAny_Constant_int (args_nil ?_)) hs2) hs) hs hpl))
  subst ex
  cases rv
  obtain ⟨its, rvs, pl, hz⟩ := I1.list hq
  obtain ⟨o, ho, hcl, n, hd⟩ := pl.isList
  have I2 : Inv X pins σ H1 { s1 with toks := s1.toks + 1 } := I1.tok _
  have hh : X.A.handled = none := I1.ok.hd hc
  have hil : its.length = xs.length := rvs.length.symm
  refine callType_codes (Q₁ := fun obj s₁ => s₁.TypeIs obj "itertools.combinations" ∧ wpAny (model X.prog X.w) X.A (pyIter obj) (PIE X pins σ tg R) X.xe s₁) called_cb (typeCall_cb _ _) F.entry_object_init
    (new_cb (A := X.A.in1) (Pa := fun acc => acc = its.toArray) hh hk (fun A' Q E hh' h => wpAny_collect_seq a (.inl rfl) ho hcl hd (fun h' hk' => h h' _ its.toArray hk' rfl) (by rw [List.size_toArray, hil]; exact hz)) (fun acc ha => by rw [ha, List.size_toArray]; omega)
      fun h' tk acc kp ha => made_cb (acc := acc) (vs := xs) I2 hk kp (by rw [ha]; exact rvs) hL q) fun obj s₁ h₁ => ?_
  exact ⟨h₁.1, F.args_object_init_3 obj _ _, object_init_meets called_cb.init.lookup called_cb.made (by decide) X.prog X.w X.A.in1 _ s₁ ⟨h₁.1, rfl, h₁.2⟩⟩
end
/-! ### which places -/
def cmb : Nat → List Nat → List (List Nat)
  | 0, _ => [[]]
  | _ + 1, [] => []
  | k + 1, x :: xs => (cmb k xs).map (x :: ·) ++ cmb (k + 1) xs
def cbB (n k : Nat) : Bool :=
  (!decide (n < k) || (cmb k (List.range n)).isEmpty) && (!decide (k ≤ n) || (cmb k (List.range n))[0]? == some (List.range k)) &&
  ((List.range (cmb k (List.range n)).length).all fun i => nxt n ((cmb k (List.range n)).getD i []) == (cmb k (List.range n))[i + 1]?) && ((cmb k (List.range n)).all fun v => v.length == k)
theorem cbl_of {n k : Nat} (h : cbB n k = true) : CbL n k (cmb k (List.range n)) := by
  unfold cbB at h
  rw [Bool.and_eq_true, Bool.and_eq_true, Bool.and_eq_true] at h
  obtain ⟨⟨⟨h1, h2⟩, h3⟩, h4⟩ := h
  refine ⟨fun z => ?_, fun z => ?_, fun i v e => ?_, fun v hv => ?_⟩
  · rw [decide_eq_true z] at h1
    exact List.isEmpty_iff.mp h1
  · rw [decide_eq_true z] at h2
    exact eq_of_beq h2
  · have hi : i < (cmb k (List.range n)).length := (List.getElem?_eq_some_iff.mp e).1
    have := List.all_eq_true.mp h3 i (List.mem_range.mpr hi)
    rw [List.getD_eq_getElem?_getD, e] at this
    exact eq_of_beq this
  · exact eq_of_beq (List.all_eq_true.mp h4 v hv)
theorem cb_all : ((List.range 13).all fun n => (List.range 4).all fun k => cbB n k) = true := by decide +kernel
theorem cbl {n k : Nat} (hn : n ≤ 12) (hk : k ≤ 3) : CbL n k (cmb k (List.range n)) :=
  cbl_of (List.all_eq_true.mp (List.all_eq_true.mp cb_all n (List.mem_range.mpr (by omega))) k (List.mem_range.mpr (by omega)))
end Cb

/-! ### lists of pairs of whole numbers -/
inductive All2 {α β : Type} (R : α → β → Prop) : List α → List β → Prop
  | nil : All2 R [] []
  | cons {x : α} {y : β} {xs : List α} {ys : List β} : R x y → All2 R xs ys → All2 R (x :: xs) (y :: ys)
theorem All2.length {α β : Type} {R : α → β → Prop} {xs : List α} {ys : List β} (h : All2 R xs ys) : xs.length = ys.length := by
  induction h with
  | nil => rfl
  | cons _ _ ih => rw [List.length_cons, List.length_cons, ih]
theorem All2.mono {α β : Type} {R R' : α → β → Prop} {xs : List α} {ys : List β} (h : All2 R xs ys) (f : ∀ x y, R x y → R' x y) : All2 R' xs ys := by
  induction h with
  | nil => exact .nil
  | cons a _ ih => exact .cons (f _ _ a) ih
theorem All2.app {α β : Type} {R : α → β → Prop} {xs xs' : List α} {ys ys' : List β} (h : All2 R xs ys) (h' : All2 R xs' ys') : All2 R (xs ++ xs') (ys ++ ys') := by
  induction h with
  | nil => exact h'
  | cons a _ ih => exact .cons a ih
theorem All2.at {α β : Type} {R : α → β → Prop} {xs : List α} {ys : List β} (h : All2 R xs ys) : ∀ {i : Nat} {x : α}, xs[i]? = some x → ∃ y, ys[i]? = some y ∧ R x y := by
  induction h with
  | nil => intro i x e; cases e
  | cons a _ ih =>
    intro i x e
    cases i with
    | zero => obtain rfl := Option.some.inj e; exact ⟨_, rfl, a⟩
    | succ i => exact ih e
theorem All2.at' {α β : Type} {R : α → β → Prop} {xs : List α} {ys : List β} (h : All2 R xs ys) : ∀ {i : Nat} {y : β}, ys[i]? = some y → ∃ x, xs[i]? = some x ∧ R x y := by
  induction h with
  | nil => intro i x e; cases e
  | cons a _ ih =>
    intro i x e
    cases i with
    | zero => obtain rfl := Option.some.inj e; exact ⟨_, rfl, a⟩
    | succ i => exact ih e
theorem All2.take {α β : Type} {R : α → β → Prop} {xs : List α} {ys : List β} (h : All2 R xs ys) : ∀ i, All2 R (xs.take i) (ys.take i) := by
  induction h with
  | nil => intro i; rw [List.take_nil, List.take_nil]; exact .nil
  | cons a _ ih =>
    intro i
    cases i with
    | zero => exact .nil
    | succ i => exact .cons a (ih i)
theorem All2.drop {α β : Type} {R : α → β → Prop} {xs : List α} {ys : List β} (h : All2 R xs ys) : ∀ i, All2 R (xs.drop i) (ys.drop i) := by
  induction h with
  | nil => intro i; rw [List.drop_nil, List.drop_nil]; exact .nil
  | cons a t ih =>
    intro i
    cases i with
    | zero => exact .cons a t
    | succ i => exact ih i
theorem All2.one {α β : Type} {R : α → β → Prop} {x : α} {y : β} (h : R x y) : All2 R [x] [y] := .cons h .nil
def PrAt (K : PySem.W.Frag) (H : Hp) (x : V) (p : Int × Int) : Prop := ∃ t, x = V.ref t ∧ H t = some (.tup [.int p.1, .int p.2])
abbrev PrL (K : PySem.W.Frag) (H : Hp) (xs : List V) (l : List (Int × Int)) : Prop := All2 (PrAt K H) xs l
theorem PrAt.mono {H H' : Hp} {x : V} {p : Int × Int} (s : Same H H') (h : PrAt K H x p) : PrAt K H' x p := by
  obtain ⟨t, e, ht⟩ := h
  exact ⟨t, e, s _ _ ht⟩
theorem PrL.mono {H H' : Hp} {xs : List V} {l : List (Int × Int)} (s : Same H H') (h : PrL K H xs l) : PrL K H' xs l := All2.mono h fun _ _ q => q.mono s
/-- all tuples of H stand in H' -/
def TupS (H H' : Hp) : Prop := ∀ t xs, H t = some (.tup xs) → H' t = some (.tup xs)
theorem TupS.of {H H' : Hp} (s : Same H H') : TupS H H' := fun t xs e => s _ _ e
theorem TupS.trans {H H' H2 : Hp} (s : TupS H H') (s' : TupS H' H2) : TupS H H2 := fun t xs e => s' _ _ (s _ _ e)
theorem TupS.put {H : Hp} {p : Addr} {xs : List V} {o : HO} (h : H p = some (.lst xs)) : TupS H (upd H p o) := fun t ys e => by
  rw [upd_ne (ne_of e h (fun z => nomatch z))]
  exact e
theorem PrL.tups {H H' : Hp} {xs : List V} {l : List (Int × Int)} (s : TupS H H') (h : PrL K H xs l) : PrL K H' xs l := All2.mono h fun _ _ ⟨t, e, ht⟩ => ⟨t, e, s _ _ ht⟩
theorem PrAt.sq {H : Hp} {x : V} {p : Int × Int} (h : PrAt K H x p) : ∃ t, x = V.ref t ∧ SqT K H t [.int p.1, .int p.2] := by
  obtain ⟨t, e, ht⟩ := h
  exact ⟨t, e, .inl (.inl ht)⟩
/-! pairs in order -/
def le2 (p q : Int × Int) : Prop := p.1 < q.1 ∨ (p.1 = q.1 ∧ p.2 ≤ q.2)
instance (p q : Int × Int) : Decidable (le2 p q) := by unfold le2; exact inferInstance
theorem le2_anti {p q : Int × Int} (h : le2 p q) (h' : le2 q p) : p = q := by
  unfold le2 at h h'
  exact Prod.ext (by omega) (by omega)
theorem le2_total (p q : Int × Int) : le2 p q ∨ le2 q p := by unfold le2; omega
theorem le2_trans {p q r : Int × Int} (h : le2 p q) (h' : le2 q r) : le2 p r := by unfold le2 at *; omega
def sort2 (l : List (Int × Int)) : List (Int × Int) := l.mergeSort fun p q => decide (le2 p q)
theorem sort2_perm (l : List (Int × Int)) : (sort2 l).Perm l := List.mergeSort_perm _ _
theorem sort2_sorted (l : List (Int × Int)) : (sort2 l).Pairwise le2 := by
  have := List.pairwise_mergeSort (le := fun p q => decide (le2 p q)) (fun a b c h1 h2 => decide_eq_true (le2_trans (of_decide_eq_true h1) (of_decide_eq_true h2)))
    (fun a b => by rcases le2_total a b with h | h <;> simp [h]) l
  exact this.imp fun h => of_decide_eq_true h
theorem sort2_uniq {l m : List (Int × Int)} (h1 : m.Perm l) (h2 : m.Pairwise le2) : m = sort2 l :=
  List.Perm.eq_of_pairwise (le := le2) (fun _ _ _ _ => le2_anti) h2 (sort2_sorted l) (h1.trans (sort2_perm l).symm)
theorem sort2_self {l : List (Int × Int)} (h : l.Pairwise le2) : sort2 l = l := (sort2_uniq (List.Perm.refl _) h).symm
theorem sort2_mem {l : List (Int × Int)} {p : Int × Int} : p ∈ sort2 l ↔ p ∈ l := (sort2_perm l).mem_iff
theorem sort2_len (l : List (Int × Int)) : (sort2 l).length = l.length := (sort2_perm l).length_eq
theorem sort2_eq {l m : List (Int × Int)} (h : l.Perm m) : sort2 l = sort2 m := sort2_uniq ((sort2_perm l).trans h) (sort2_sorted l)
theorem sort2_nodup {l : List (Int × Int)} (h : l.Nodup) : (sort2 l).Nodup := (sort2_perm l).nodup_iff.mpr h
/-! sorted -/
def kOf (H : Hp) : V → Int × Int
  | .ref t => match H t with
    | some (.tup [.int i, .int j]) => (i, j)
    | _ => (0, 0)
  | _ => (0, 0)
theorem PrAt.k {H : Hp} {x : V} {p : Int × Int} (h : PrAt K H x p) : kOf H x = p := by
  obtain ⟨t, rfl, ht⟩ := h
  show (match H t with | some (.tup [.int i, .int j]) => (i, j) | _ => (0, 0)) = p
  rw [ht]
theorem PrL.k {H : Hp} {xs : List V} {l : List (Int × Int)} (h : PrL K H xs l) : xs.map (kOf H) = l := by
  induction h with
  | nil => rfl
  | cons a _ ih => rw [List.map_cons, a.k, ih]
theorem PrL.mem {H : Hp} {xs : List V} {l : List (Int × Int)} (h : PrL K H xs l) : ∀ x ∈ xs, PrAt K H x (kOf H x) := by
  induction h with
  | nil => intro x hx; cases hx
  | cons a _ ih =>
    intro x hx
    rcases List.mem_cons.mp hx with e | hx
    · subst e; rw [a.k]; exact a
    · exact ih x hx
theorem PrL.of_k {H : Hp} : ∀ {ys : List V}, (∀ x ∈ ys, PrAt K H x (kOf H x)) → PrL K H ys (ys.map (kOf H))
  | [], _ => .nil
  | y :: ys, h => .cons (h y (List.mem_cons_self ..)) (PrL.of_k fun x hx => h x (List.mem_cons_of_mem _ hx))
def rSort2 (K : PySem.W.Frag) : List V → Hp → VK → Prop := fun vs H Q => ∃ (a : Addr) (xs : List V) (l : List (Int × Int)), vs = [V.ref a] ∧ SqL K H a xs ∧ PrL K H xs l ∧
  ∀ ys p, PrL K H ys (sort2 l) → H p = none → Q (.ref p) (upd H p (.lst ys))
theorem cr_sort2 {X : Cx} : CallR X (.builtin "sorted") (rSort2 X.K) := by
  intro pins s σ H vs us Q I r h
  obtain ⟨a, xs, l, rfl, hs, hP, q⟩ := h
  refine cr_sortedPO pins s σ H _ us Q I r ⟨a, xs, kOf H, rfl, hs, fun x hx => hP.mem x hx, fun ys p h1 h2 hp => q ys p ?_ hp⟩
  have hm := PrL.of_k (K := X.K) (H := H) (ys := ys) fun x hx => hP.mem x (h2.perm.mem_iff.mp hx)
  have e : ys.map (kOf H) = sort2 l := by
    refine sort2_uniq ?_ ?_
    · rw [← hP.k]; exact h2.perm.map _
    · rw [List.pairwise_map]
      refine List.Pairwise.imp (fun {x y} h => ?_) h1
      have := SrtO.lexB_no.mp h
      unfold le2
      omega
  rw [e] at hm
  exact hm
/-! in, ==, != -/
def dat2 (p : Int × Int) : PyData := .tuple [.int p.1, .int p.2]
theorem dat2_eqv (p q : Int × Int) : PyData.eqv (dat2 p) (dat2 q) = decide (p = q) := by
  obtain ⟨a, b⟩ := p
  obtain ⟨c, d⟩ := q
  show PyData.eqvAll [.int a, .int b] [.int c, .int d] = _
  simp only [PyData.eqvAll, PyData.eqv, Bool.and_true]
  by_cases h1 : a = c <;> by_cases h2 : b = d <;> simp [h1, h2]
theorem dat2s_eqv : ∀ l m : List (Int × Int), PyData.eqvAll (l.map dat2) (m.map dat2) = decide (l = m)
  | [], [] => by simp [PyData.eqvAll]
  | [], _ :: _ => by simp [PyData.eqvAll]
  | _ :: _, [] => by simp [PyData.eqvAll]
  | p :: l, q :: m => by
    rw [List.map_cons, List.map_cons, PySem.W.eqv_all_cons, dat2_eqv, dat2s_eqv l m]
    by_cases e : p = q
    · subst e; simp
    · simp [e]
theorem PrAt.dp {H : Hp} {x : V} {p : Int × Int} (h : PrAt K H x p) : Dp K H x (dat2 p) := by
  obtain ⟨t, rfl, ht⟩ := h
  exact .tup (.inl (.inl ht)) (.cons (.int _) (.cons (.int _) .nil))
theorem PrL.dp {H : Hp} {xs : List V} {l : List (Int × Int)} (h : PrL K H xs l) : DpAll K H xs (l.map dat2) := by
  induction h with
  | nil => exact .nil
  | cons a _ ih => exact .cons a.dp ih
theorem dat2_sh (p : Int × Int) : SeqAt.shaped (dat2 p) = true := rfl
theorem dat2_sh2 (l : List (Int × Int)) (h : l.length ≤ 200) : SeqAt.shaped (.list (l.map dat2)) = true := by
  have key : ∀ l : List (Int × Int), PyData.canLayAll0 (l.map dat2) = true ∧ PyData.depthAll (l.map dat2) ≤ 1 := by
    intro l
    induction l with
    | nil => exact ⟨rfl, by decide⟩
    | cons p l ih =>
      refine ⟨?_, ?_⟩
      · show (PyData.canLay0 (dat2 p) && PyData.canLayAll0 (l.map dat2)) = true
        rw [ih.1]; rfl
      · show max (PyData.depth (dat2 p)) (PyData.depthAll (l.map dat2)) ≤ 1
        have : PyData.depth (dat2 p) = 1 := rfl
        have := ih.2
        omega
  unfold SeqAt.shaped
  have h1 : PyData.canLay0 (.list (l.map dat2)) = true := by
    exact (key l).1
  have h2 : PyData.depth (.list (l.map dat2)) ≤ 64 := by
    have := (key l).2
    simp only [PyData.depth]
    omega
  rw [h1, decide_eq_true h2]
  rfl
theorem any_eqv (l : List (Int × Int)) (p : Int × Int) : ((l.map dat2).any fun z => PyData.eqv z (dat2 p)) = decide (p ∈ l) := by
  induction l with
  | nil => simp
  | cons q l ih =>
    rw [List.map_cons, List.any_cons, ih, dat2_eqv]
    by_cases e : q = p
    · subst e; simp
    · simp [e, Ne.symm e]
def rIn2 (K : PySem.W.Frag) (neg : Bool) : R2 := fun x y H Q => ∃ (p : Int × Int) (a : Addr) (xs : List V) (l : List (Int × Int)), PrAt K H x p ∧ y = .ref a ∧ SqL K H a xs ∧ PrL K H xs l ∧ l.length ≤ 200 ∧ Q (.bl (if neg then !decide (p ∈ l) else decide (p ∈ l))) H
section
variable {X : Cx}
theorem op_in2 (hu : X.A.units + 65 < cLine) : OpR X (compareOp .In) (rIn2 X.K false) := by
  intro pins s σ H x y v u Q I rx ry h
  obtain ⟨p, a, xs, l, hp, rfl, hs, hP, hl, q⟩ := h
  refine op_inD hu pins s σ H _ _ v u Q I rx ry ⟨_, _, hp.dp, .lst hs hP.dp, dat2_sh p, dat2_sh2 l hl, ?_⟩
  rw [any_eqv]
  exact q
theorem op_notIn2 (hu : X.A.units + 65 < cLine) : OpR X (compareOp .NotIn) (rIn2 X.K true) := by
  intro pins s σ H x y v u Q I rx ry h
  obtain ⟨p, a, xs, l, hp, rfl, hs, hP, hl, q⟩ := h
  refine op_notInD hu pins s σ H _ _ v u Q I rx ry ⟨_, _, hp.dp, .lst hs hP.dp, dat2_sh p, dat2_sh2 l hl, ?_⟩
  rw [any_eqv]
  exact q
def rEqL2 (K : PySem.W.Frag) (neg : Bool) : R2 := fun x y H Q => ∃ (a b : Addr) (xs ys : List V) (l m : List (Int × Int)), x = .ref a ∧ y = .ref b ∧ SqL K H a xs ∧ PrL K H xs l ∧ SqL K H b ys ∧ PrL K H ys m ∧ l.length ≤ 200 ∧ m.length ≤ 200 ∧ Q (.bl (if neg then !decide (l = m) else decide (l = m))) H
theorem op_eqL2 (hu : X.A.units + 64 < cLine) : OpR X (compareOp .Eq) (rEqL2 X.K false) := by
  intro pins s σ H x y v u Q I rx ry h
  obtain ⟨a, b, xs, ys, l, m, rfl, rfl, hs, hP, hs', hP', hl, hm, q⟩ := h
  refine op_eqD hu pins s σ H _ _ v u Q I rx ry ⟨_, _, .lst hs hP.dp, .lst hs' hP'.dp, dat2_sh2 l hl, dat2_sh2 m hm, ?_⟩
  show Q (.bl (PyData.eqvAll _ _)) H
  rw [dat2s_eqv]
  exact q
theorem op_neL2 (hu : X.A.units + 64 < cLine) : OpR X (compareOp .NotEq) (rEqL2 X.K true) := by
  intro pins s σ H x y v u Q I rx ry h
  obtain ⟨a, b, xs, ys, l, m, rfl, rfl, hs, hP, hs', hP', hl, hm, q⟩ := h
  refine op_neD hu pins s σ H _ _ v u Q I rx ry ⟨_, _, .lst hs hP.dp, .lst hs' hP'.dp, dat2_sh2 l hl, dat2_sh2 m hm, ?_⟩
  show Q (.bl (!PyData.eqvAll _ _)) H
  rw [dat2s_eqv]
  exact q
def rEqP2 (K : PySem.W.Frag) (neg : Bool) : R2 := fun x y H Q => ∃ (p q : Int × Int), PrAt K H x p ∧ PrAt K H y q ∧ Q (.bl (if neg then !decide (p = q) else decide (p = q))) H
theorem op_eqP2 (hu : X.A.units + 64 < cLine) : OpR X (compareOp .Eq) (rEqP2 X.K false) := by
  intro pins s σ H x y v u Q I rx ry h
  obtain ⟨p, q, hp, hq, k⟩ := h
  refine op_eqD hu pins s σ H _ _ v u Q I rx ry ⟨_, _, hp.dp, hq.dp, dat2_sh p, dat2_sh q, ?_⟩
  rw [dat2_eqv]
  exact k
theorem op_neP2 (hu : X.A.units + 64 < cLine) : OpR X (compareOp .NotEq) (rEqP2 X.K true) := by
  intro pins s σ H x y v u Q I rx ry h
  obtain ⟨p, q, hp, hq, k⟩ := h
  refine op_neD hu pins s σ H _ _ v u Q I rx ry ⟨_, _, hp.dp, hq.dp, dat2_sh p, dat2_sh q, ?_⟩
  rw [dat2_eqv]
  exact k
end
theorem Room.units2 {k : Nat} {A : Around} (r : Room k A) : A.units + 65 < cLine := by have := r.un; omega

/-! ### min, max of a tuple of two whole numbers -/
section
variable {X : Cx}
def rMin2T (K : PySem.W.Frag) (f : Int → Int → Int) : List V → Hp → VK → Prop := fun vs H Q => ∃ (a : Addr) (i j : Int), vs = [V.ref a] ∧ SqT K H a [.int i, .int j] ∧ Q (.int (f i j)) H
theorem tup_of {h : Heap} {a : Addr} {its : Array Value} (t : IsTup h a its) : h.IsTuple a its := t
theorem reads_int {h : Heap} {v : Value} {n : Int} {bs : List Addr} (r : Reads h v (.int n) bs) : ∃ t, v = .int n t := by
  cases r with
  | int => exact ⟨_, rfl⟩
theorem alike2 (i j : Int) : PySem.W.AlikeAll [.int i, .int j] := by
  refine ⟨fun x hx y hy => ?_, fun x hx => ?_⟩
  · simp only [List.mem_cons, List.not_mem_nil, or_false] at hx hy
    rcases hx with rfl | rfl <;> rcases hy with rfl | rfl <;> rfl
  · simp only [List.mem_cons, List.not_mem_nil, or_false] at hx
    rcases hx with rfl | rfl <;> exact fun z => nomatch z
theorem cr_min2T (hc : X.calm = true) (hu : X.A.units + 64 < cLine) : CallR X (.builtin "min") (rMin2T X.K min) := by
  intro pins s σ H vs us Q I r h
  obtain ⟨a, i, j, rfl, hs, q⟩ := h
  obtain ⟨its, rv, hl, _⟩ := I.tuple hs
  rw [Vals.ref1 r]
  obtain ⟨u1, u2, rfl, ⟨t1, e1⟩, ⟨t2, e2⟩⟩ := vals2 rv
  subst e1; subst e2
  refine PySem.W.min_tuple_data (x := .int i) (xs := [.int j]) (I.ok.hd hc) (tup_of hl) (.cons (Reads.int i t1) (.cons (Reads.int j t2) .nil)) (alike2 i j) ?_ fun k v h' tk bs hk hr hh => ?_
  · show X.A.units + 1 + 0 < cLine
    omega
  · have hm : PySem.W.minD (.int i) [.int j] = .int (min i j) := PySem.W.minD_ints i [j]
    rw [hm] at hr
    obtain ⟨t, rfl⟩ := reads_int hr
    exact ⟨.int _, H, I.kept hh, ⟨_, rfl⟩, q⟩
theorem cr_max2T (hc : X.calm = true) (hu : X.A.units + 64 < cLine) : CallR X (.builtin "max") (rMin2T X.K max) := by
  intro pins s σ H vs us Q I r h
  obtain ⟨a, i, j, rfl, hs, q⟩ := h
  obtain ⟨its, rv, hl, _⟩ := I.tuple hs
  rw [Vals.ref1 r]
  obtain ⟨u1, u2, rfl, ⟨t1, e1⟩, ⟨t2, e2⟩⟩ := vals2 rv
  subst e1; subst e2
  refine PySem.W.max_tuple_data (x := .int i) (xs := [.int j]) (I.ok.hd hc) (tup_of hl) (.cons (Reads.int i t1) (.cons (Reads.int j t2) .nil)) (alike2 i j) ?_ fun k v h' tk bs hk hr hh => ?_
  · show X.A.units + 1 + 0 < cLine
    omega
  · have hm : PySem.W.maxD (.int i) [.int j] = .int (max i j) := PySem.W.maxD_ints i [j]
    rw [hm] at hr
    obtain ⟨t, rfl⟩ := reads_int hr
    exact ⟨.int _, H, I.kept hh, ⟨_, rfl⟩, q⟩
end

/-! ### dicts with tuples as keys: walks over items and keys, len, dict(d) -/
section
variable {P : Program} {w : World} {K : PySem.W.Frag} {X : Cx}
theorem frzT2 {pins : List (Addr × Obj)} {σ : L2.St} {H : Hp} {s : Shared} {d : Addr} {o : Obj} {kvs : List (List Key × V)} (I : Inv X pins σ H s) (h : H d = some (.frz o (.dT kvs))) :
    (d == sysModules) = false ∧ s.heap.get? d = some o ∧ o.ExactDict ∧ ∃ (es : Array DictEntry) (ep : Nat), o.data = .dict es ep ∧ es.size = kvs.length ∧
      ∀ (i : Nat) (k : List Key) (v : V), kvs[i]? = some (k, v) → ∃ (en : DictEntry) (q : Addr), es[i]? = some en ∧ en.key = .ref q ∧ H q = some (.tup (k.map kV)) ∧ RelV v en.val := by
  obtain ⟨hd, z, hs, xs, pr, o', es, ep, ho, hx, hdt, he, _⟩ := I.hok d _ h
  rw [hd] at ho
  cases ho
  refine ⟨hs, hd, hx, es, ep, hdt, ?_, fun i k v e => ?_⟩
  · have l1 : es.size = xs.length := PySem.size_of_entries he
    have l2 : kvs.length = xs.length := Paired.length pr
    omega
  · obtain ⟨b, hb, e1, e2, e3⟩ := paired_get pr e
    have q := PySem.entry_at he i
    rw [hb] at q
    exact ⟨_, b.2.1, q, rfl, e2, e3⟩
/-- the pairs, each a new tuple -/
def ItiT (d : Addr) (o : Obj) (kvs : List (List Key × V)) : It :=
  ⟨fun i H => H d = some (.frz o (.dT kvs)) ∧ i < kvs.length, fun i H x H' => ∃ (T : Addr) (k : List Key) (v : V) (q : Addr), kvs[i]? = some (k, v) ∧ x = .ref T ∧ H T = none ∧ H q = some (.tup (k.map kV)) ∧ H' = upd H T (.tup [.ref q, v]), fun i H => H d = some (.frz o (.dT kvs)) ∧ kvs.length ≤ i⟩
theorem turn_itemsT {d : Addr} {o : Obj} {es : Array DictEntry} {ep : Nat} {kvs : List (List Key × V)} {elts : List Expr} {kk : Nat} {tpos : Pos} (it : Addr) (hod : o.data = .dict es ep) :
    Turn P w K (.Tuple elts kk tpos) (ItiT d o kvs) [it] it (fun i h => ∃ ok ov, IsItemIter h it d i kvs.length ep ok ov) where
  mem := by simp
  obj := fun i h st b hb => by
    have e : b = it := by simpa using hb
    subst e
    obtain ⟨ok, ov, e⟩ := st
    exact ⟨_, e, fun v z => nomatch z⟩
  keep := fun i h h' st k => let ⟨ok, ov, e⟩ := st; ⟨ok, ov, k it (by simp) _ e⟩
  item := by
    intro X hP hw hK hc i pins s σ H E I hf st hg
    subst hP hw hK
    obtain ⟨hd, hi⟩ := hg
    obtain ⟨hs, hgd, hx, es', ep', hdt, hsz, ent⟩ := frzT2 I hd
    obtain ⟨rfl, rfl⟩ := dict_ep hod hdt
    obtain ⟨⟨k, v⟩, hkv⟩ : ∃ p, kvs[i]? = some p := ⟨kvs[i], List.getElem?_eq_getElem hi⟩
    obtain ⟨en, q, hen, hkey, hq, rv⟩ := ent i k v hkv
    obtain ⟨ok, ov, he⟩ := st
    rw [← hsz] at he
    have hi' : i < es'.size := by omega
    have een : es'[i] = en := by rw [Array.getElem?_eq_getElem hi'] at hen; exact Option.some.inj hen
    have hlt : it < s.heap.objs.size := Heap.lt_size he
    refine wpAny_pyNext_items_item_raw he ⟨o, hgd, hx, hdt⟩ hi' fun h' ho hT hz hk => ?_
    rw [een, hkey] at ho hT
    refine ⟨_, rfl, wpAny_letOwnedTupleGo_items (s := { s with heap := h' }) ho fun h'' he' sb => ?_⟩
    have hT2 : h''.get? s.heap.objs.size = some { cls := .type "tuple", data := .seq #[.ref q, en.val] } := (sb.2 _ (Nat.ne_of_gt hlt)).trans hT
    have new : ObjOk X.prog X.w (upd H s.heap.objs.size (.tup [.ref q, v])) h'' s.heap.objs.size (.tup [.ref q, v]) :=
      ⟨by show 2 ≤ sizeLine; decide, [.ref q, en.val], .cons rfl (.cons rv .nil), ⟨_, hT2, rfl, _, rfl⟩⟩
    have I1 : Inv X pins σ (upd H s.heap.objs.size (.tup [.ref q, v])) { s with heap := h'' } :=
      I.turnedNew (t' := s.toks) (ch := [it]) (fun b ob hb e => (sb.2 b (by simpa using hb)).trans (hk b ob (by simpa using hb) e)) hf (Nat.le_refl _) new
    refine ⟨.ref s.heap.objs.size, _, I1, rfl, ⟨_, k, v, q, hkv, rfl, I.hok.fresh (Nat.le_refl _), hq, rfl⟩, ⟨.ref q, en.val, ?_⟩, fun b hb => ?_⟩
    · rw [← hsz]; exact he'
    · have e : b = it := by simpa using hb
      rw [e, upd_ne (Nat.ne_of_lt hlt)]
      exact (hf it (by simp)).1
  done := by
    intro X hP hw hK hc i pins s σ H E I hf st hg
    subst hP hw hK
    obtain ⟨hd, hi⟩ := hg
    obtain ⟨f0, f1, f2, f3, f4, f5⟩ := hf it (by simp)
    obtain ⟨hs, hgd, hx, es', ep', hdt, hsz, ent⟩ := frzT2 I hd
    obtain ⟨rfl, rfl⟩ := dict_ep hod hdt
    obtain ⟨ok, ov, he⟩ := st
    rw [← hsz] at he
    exact wpAny_pyNext_items_end_raw (I.ok.hd hc) he ⟨o, hgd, hx, hdt⟩ (by omega) fun h' eb => ⟨rfl, I.turned (t' := s.toks) (fun b ob hb e => eb b ob hb e) f0 f1 f3 f4 f5⟩
  self := fun A i s Q E st h => let ⟨_, _, e⟩ := st; PySem.W.kcp_self e h
def iItemsT (td : TE) : TI := fun σ H R => td σ H fun x H1 => ∃ d o kvs, x = .ref d ∧ H1 d = some (.frz o (.dT kvs)) ∧ R (ItiT d o kvs) H1
def iKeysMT (td : TE) : TI := fun σ H R => td σ H fun x H1 => ∃ d o kvs, x = .ref d ∧ H1 d = some (.frz o (.dT kvs)) ∧ R (Itkt d o kvs) H1
variable {tg e : Expr} {td : TE} {apos cpos : Pos}
theorem pi_itemsT {elts : List Expr} {kk : Nat} {tpos : Pos} (he : PE X e td) (hbase : attributeBase e "items" X.env (eval e X.env) = eval e X.env := by rfl) (hline : (apos.endLine == cpos.line) = true := by rfl) :
    PI X (.Tuple elts kk tpos) (.Call (.Attribute e "items" apos) [] [] cpos) (iItemsT td) := by
  refine ⟨fun pins s σ H R I h => ?_⟩
  refine wpAny_Call_method (T := "dict") (id := "dict.items") hbase rfl hline PySem.F.plainAttrs_dict PySem.F.slot_dict_items PySem.F.type_dict_items (thn (he.run pins s σ H _ I h) fun u s1 ⟨x, H1, I1, rx, d, o, kvs, ex, hd, q⟩ => ?_)
  subst ex
  obtain rfl : u = Value.ref d := rx
  obtain ⟨hs, hgd, hx, es, ep, hdt, hsz, ent⟩ := I1.frzT hd
  have raw : s1.heap.DictRaw d es ep := ⟨o, hgd, hx, hdt⟩
  refine ⟨raw.typeIs, fun b q => ?_, ?_⟩
  · cases q
    exact ⟨o, hgd, hx.2.1⟩
  have I2 : Inv X pins σ H1 { s1 with heap := s1.heap.push { cls := .type "dict_items", data := .fields #[.ref d] } } := I1.kept (t' := s1.toks) fun b ob q => Heap.get?_push_of_some _ q
  have fin : wpAny (model X.prog X.w) X.A (pyIter (.ref s1.heap.objs.size)) (PIE X pins σ (.Tuple elts kk tpos) R) X.xe { s1 with heap := s1.heap.push { cls := .type "dict_items", data := .fields #[.ref d] } } := by
    refine wpAny_pyIter_items_raw (d := d) (es := es) (ep := ep) ⟨_, Heap.get?_push_size _ rfl, rfl, rfl⟩ (raw.push _) (pi_one (tk := s1.toks) I2 _ (turn_itemsT _ hdt) ⟨.none, .none, ?_⟩ q)
    rw [← hsz]
    exact Heap.get?_push_size _ rfl
  show wpAny _ _ (callWith cpos (.builtin "dict.items") [.ref d] [] []) _ X.xe s1
  exact method_meetsIn PySem.F.slot_dict_items PySem.F.entry_dict_items rfl (PySem.evalArgs_none ⟨rfl, raw.typeIs, PySem.F.args_dict_items_1 _, _, meets_dict_items_raw d hs, ⟨⟨es, ep, raw⟩, fin⟩⟩)
theorem pi_keysMT (he : PE X e td) (hbase : attributeBase e "keys" X.env (eval e X.env) = eval e X.env := by rfl) (hline : (apos.endLine == cpos.line) = true := by rfl) : PI X tg (.Call (.Attribute e "keys" apos) [] [] cpos) (iKeysMT td) := by
  refine ⟨fun pins s σ H R I h => ?_⟩
  refine wpAny_Call_method (T := "dict") (id := "dict.keys") hbase rfl hline PySem.F.plainAttrs_dict PySem.F.slot_dict_keys PySem.F.type_dict_keys (thn (he.run pins s σ H _ I h) fun u s1 ⟨x, H1, I1, rx, d, o, kvs, ex, hd, q⟩ => ?_)
  subst ex
  obtain rfl : u = Value.ref d := rx
  obtain ⟨hs, hgd, hx, es, ep, hdt, hsz, ent⟩ := I1.frzT hd
  have raw : s1.heap.DictRaw d es ep := ⟨o, hgd, hx, hdt⟩
  refine ⟨raw.typeIs, fun b q => ?_, ?_⟩
  · cases q
    exact ⟨o, hgd, hx.2.1⟩
  have I2 : Inv X pins σ H1 { s1 with heap := s1.heap.push { cls := .type "dict_keys", data := .fields #[.ref d] } } := I1.kept (t' := s1.toks) fun b ob q => Heap.get?_push_of_some _ q
  have fin : wpAny (model X.prog X.w) X.A (pyIter (.ref s1.heap.objs.size)) (PIE X pins σ tg R) X.xe { s1 with heap := s1.heap.push { cls := .type "dict_keys", data := .fields #[.ref d] } } := by
    refine wpAny_pyIter_keys_raw (d := d) (es := es) (ep := ep) ⟨_, Heap.get?_push_size _ rfl, rfl, rfl⟩ (raw.push _) (pi_one (tk := s1.toks) I2 _ (turn_keysT _ hdt) ⟨_, Heap.get?_push_size _ rfl, rfl, ?_⟩ q)
    rw [hsz] <;> rfl
  show wpAny _ _ (callWith cpos (.builtin "dict.keys") [.ref d] [] []) _ X.xe s1
  exact method_meetsIn PySem.F.slot_dict_keys PySem.F.entry_dict_keys rfl (PySem.evalArgs_none ⟨rfl, raw.typeIs, PySem.F.args_dict_keys_1 _, _, meets_dict_keys_raw d hs, ⟨⟨es, ep, raw⟩, fin⟩⟩)
/-- len(d) -/
theorem len_rawT {s : Shared} {A : Around} {E : Value → Shared → Prop} {d : Addr} {es : Array DictEntry} {ep : Nat} {Q : Value → Shared → Prop} (hd : (d == sysModules) = false) (hm : s.heap.DictRaw d es ep) (hfit : (es.size : Int) < 2 ^ 63)
    (h : Q (.int es.size (s.toks + 1)) { s with toks := s.toks + 1 + 1 }) : wpAny (model P w) A (call (.builtin "len") [.ref d]) Q E s := by
  refine Calls.call_function_entry kind_len plain_len entry_len (args_len1 _) ?_
  unfold Builtin.«len»
  refine wpAny_bind (m := oneArg "len" _) (wpAny_pure ?_)
  refine wpAny_bind (m := callSpecial? (.ref d) (Str.ofString "__len__")) (wpAny_callSpecial?_slot (name := Str.ofString "__len__") hm.typeIs PySem.F.slot_dict_len
    (call_meetsIn PySem.F.slot_dict_len hm.typeIs PySem.F.entry_dict_len (PySem.F.args_dict_len_1 _) (meets_dict_len_raw d hd) ⟨es, ep, hm, ?_⟩))
  show wpAny _ _ _ _ _ { s with toks := s.toks + 1 }
  refine wpAny_bind (wpAny_holding (wpAny_pure ?_))
  refine wpAny_bind (wpAny_letGo ?_)
  show wpAny _ _ (if ((es.size : Nat) : Int) < 0 then _ else _) _ _ _
  rw [if_neg (by omega)]
  show wpAny _ _ (if ((es.size : Nat) : Int) ≥ 2 ^ 63 then _ else _) _ _ _
  rw [if_neg (by omega)]
  exact wpAny_bind (wpAny_mkInt (wpAny_pure ⟨_, rfl, h⟩))
theorem call_lenT : CallR X (.builtin "len") (fun xs H Q => ∃ a kvs, xs = [V.ref a] ∧ H a = some (.dT kvs) ∧ Q (.int kvs.length) H) := by
  intro pins s σ H xs us Q I r h
  obtain ⟨a, kvs, rfl, ha, q⟩ := h
  obtain ⟨u, rfl, ru⟩ := vals1 r
  cases ru
  obtain ⟨z, hs, xs, pr, o, es, ep, ho, hx, hdt, he, hn⟩ := (show ObjOk X.prog X.w H s.heap a (.dT kvs) from I.hok a _ ha)
  have l1 : es.size = xs.length := PySem.size_of_entries he
  have l2 : kvs.length = xs.length := Paired.length pr
  refine len_rawT hs ⟨o, ho, hx, hdt⟩ (by rw [sizeLine_eq] at z; omega) ?_
  rw [l1, ← l2]
  exact ⟨.int kvs.length, H, I.tok _, ⟨_, rfl⟩, q⟩
/-- dict(d) where no two keys hash alike -/
theorem dict_ofT {s : Shared} {A : Around} {E : Value → Shared → Prop} {κ : Type} [DecidableEq κ] {knd : HeapKind P w κ} {o : Addr} {more : List (κ × Addr × Value)} {Q : Value → Shared → Prop} (hu : knd.room A.in1.in1) (hoS : (o == sysModules) = false) (ho : s.heap.DictOfH knd o more)
    (hty : ∀ x ∈ more, s.TypeIs (.ref x.2.1) "tuple") (hap : (more.map fun x => knd.hash x.1).Nodup) (hsz : more.length ≤ sizeLine) (hst : ∀ o', ∀ x ∈ more, knd.is (s.heap.push o') x.1 x.2.1)
    (h : ∀ h', h'.DictOfH knd s.heap.objs.size more → Heap.SameBut s.heap.objs.size (s.heap.push { cls := .type "dict", data := .dict #[] }) h' → Q (.ref s.heap.objs.size) { s with heap := h' }) :
    wpAny (model P w) A (call (.type "dict") [.ref o]) Q E s := by
  refine callType_codes (Q₁ := fun obj s₁ => obj = .ref s.heap.objs.size ∧ s₁ = { s with heap := s.heap.push { cls := .type "dict", data := .dict #[] } }) PySem.F.kt_called_dict (PySem.F.kt_typeCall_dict_1 _) PySem.F.entry_dict_init (kt_code_dict_new _ ⟨rfl, rfl⟩) ?_
  rintro obj s₁ ⟨rfl, rfl⟩
  have hnew : (s.heap.push { cls := .type "dict", data := .dict #[] }).DictOfH knd s.heap.objs.size [] := ⟨_, #[], 0, Heap.get?_push_size _ rfl, ⟨rfl, rfl, rfl⟩, rfl, rfl, (fun x hx => nomatch hx), List.Pairwise.nil⟩
  have ho' : (s.heap.push { cls := .type "dict", data := .dict #[] }).DictOfH knd o more := ho.at' (fun b q => Heap.get?_push_of_some _ q) (hst _)
  have hdo : s.heap.objs.size ≠ o := fun e => absurd ho.lt_size (by rw [e]; exact Nat.lt_irrefl _)
  refine ⟨hnew.typeIs, PySem.F.args_dict_init_2 _ _, ?_⟩
  unfold Builtin.«dict.__init__»
  refine wpAny_bind ?_
  unfold Builtin.Dict.selfAndRest
  refine wpAny_bind (wpAny_notOrdered_dict hnew.typeIs ?_)
  show wpAny _ _ (pure (s.heap.objs.size, [Value.ref o])) _ _ _
  refine wpAny_pure ?_
  show wpAny _ _ (Builtin.Dict.updateFrom "dict.__init__" s.heap.objs.size (.ref o) [] .none) _ _ _
  unfold Builtin.Dict.updateFrom
  refine wpAny_bind (wpAny_typeOf ho'.typeIs ?_)
  rw [if_neg (by decide)]
  refine wpAny_bind ?_
  unfold Builtin.Dict.merge
  refine wpAny_bind ?_
  unfold Builtin.Dict.readDirectly
  refine wpAny_bind (wpAny_isInstance ho'.typeIs isSubtype_dict_dict ?_)
  simp only [Bool.not_true, Bool.false_eq_true, if_false]
  refine wpAny_bind (wpAny_specialOf ho'.typeIs PySem.F.slot_dict_iter.lookup (wpAny_pure ?_))
  simp only [beq_self_eq_true, if_true]
  refine wpAny_bind (wpAny_pure ?_)
  refine wpAny_mergeDict_heap (hsz := by simpa using hsz) hu hdo hoS hnew ho' (.inr ⟨fun x hx => let ⟨ob, e, c⟩ := hty x hx; ⟨ob, Heap.get?_push_of_some _ e, c⟩, hap⟩) fun h' hd' _ hs' => ?_
  show wpAny _ _ (Builtin.Dict.addKeywords s.heap.objs.size [] >>= _) _ _ _
  rw [storedAllH_nil_of_nodup more ho.nodup] at hd'
  exact wpAny_bind (wpAny_pure (wpAny_pure ⟨rfl, h h' hd' hs'⟩))
/-- the key of a pair -/
def pk (p : Int × Int) : List Key := [.inl p.1, .inl p.2]
theorem pk_inj {p q : Int × Int} (h : pk p = pk q) : p = q := by
  unfold pk at h
  injection h with h1 h2
  injection h2 with h2 _
  exact Prod.ext (Sum.inl.inj h1) (Sum.inl.inj h2)
def hashP (p : Int × Int) : Int := reduceHash (Builtin.Tuple.tupleHashOf [hashInt p.1, hashInt p.2])
theorem hash_pk (P : Program) (w : World) (p : Int × Int) : (tupleKind (mixKind P w)).hash (pk p) = hashP p := by
  show tupleKeyHash (mixKind P w) (pk p) = _
  unfold tupleKeyHash hashP pk
  rfl
def smallPs : List (Int × Int) := (List.range 169).map fun i => (((i / 13 : Nat) : Int), ((i % 13 : Nat) : Int))
theorem hashes_apart : (smallPs.map hashP).Nodup := by decide +kernel
theorem nodup_at {α : Type} {l : List α} (h : l.Nodup) {i j : Nat} {x : α} (hi : l[i]? = some x) (hj : l[j]? = some x) : i = j := by
  have li := (List.getElem?_eq_some_iff.mp hi)
  have lj := (List.getElem?_eq_some_iff.mp hj)
  obtain ⟨li, ei⟩ := li
  obtain ⟨lj, ej⟩ := lj
  exact (List.getElem_inj h).mp (ei.trans ej.symm)
def smallP (p : Int × Int) : Prop := 0 ≤ p.1 ∧ p.1 < 13 ∧ 0 ≤ p.2 ∧ p.2 < 13
theorem small_at {p : Int × Int} (h : smallP p) : smallPs[p.1.toNat * 13 + p.2.toNat]? = some p := by
  obtain ⟨h0, h1, h2, h3⟩ := h
  unfold smallPs
  have hl : p.1.toNat * 13 + p.2.toNat < 169 := by omega
  rw [List.getElem?_map, List.getElem?_range hl]
  refine congrArg some (Prod.ext ?_ ?_)
  · show (((p.1.toNat * 13 + p.2.toNat) / 13 : Nat) : Int) = _
    omega
  · show (((p.1.toNat * 13 + p.2.toNat) % 13 : Nat) : Int) = _
    omega
theorem hash_apart {p q : Int × Int} (hp : smallP p) (hq : smallP q) (h : hashP p = hashP q) : p = q := by
  have a := congrArg (Option.map hashP) (small_at hp)
  have b := congrArg (Option.map hashP) (small_at hq)
  rw [← List.getElem?_map] at a b
  have e := nodup_at hashes_apart a (b.trans (congrArg some h.symm))
  have ea := small_at hp
  rw [e] at ea
  exact Option.some.inj (ea.symm.trans (small_at hq))
theorem hashes_nodup {ps : List (Int × Int)} (hs : ∀ p ∈ ps, smallP p) (hn : ps.Nodup) : (ps.map hashP).Nodup := by
  refine List.pairwise_map.mpr (List.Pairwise.imp_of_mem (fun ha hb ne e => ne (hash_apart (hs _ ha) (hs _ hb) e)) hn)
theorem map_hash {κ α : Type} (f : κ → Int) (g : α → κ) (h : α → Int) (e : ∀ p, f (g p) = h p) : ∀ {ms : List (κ × Addr × Value)} {ps : List α}, ms.map (·.1) = ps.map g → ms.map (fun x => f x.1) = ps.map h
  | [], [], _ => rfl
  | m :: ms, p :: ps, q => by
    rw [List.map_cons, List.map_cons] at q
    injection q with q1 q2
    rw [List.map_cons, List.map_cons, map_hash f g h e q2, q1, e p]
theorem KT_keys {H : Hp} : ∀ {kvs : List (List Key × V)} {ms : List (List Key × Addr × Value)}, KT H kvs ms → ms.map (·.1) = kvs.map (·.1) := by
  intro kvs ms rel
  induction rel with
  | nil => rfl
  | cons h _ ih => rw [List.map_cons, List.map_cons, ih, h.1]
theorem KT_tups {H : Hp} {h : Heap} (ok : HOk P w H h) : ∀ {kvs : List (List Key × V)} {ms : List (List Key × Addr × Value)}, KT H kvs ms → ∀ x ∈ ms, H x.2.1 = some (.tup (x.1.map kV)) := by
  intro kvs ms rel
  induction rel with
  | nil => intro x hx; exact nomatch hx
  | cons h _ ih =>
    intro x hx
    rcases List.mem_cons.mp hx with e | hx
    · subst e
      rw [← h.1]
      exact h.2.1
    · exact ih x hx
theorem tup_cls {H : Hp} {h : Heap} (ok : HOk P w H h) {a : Addr} {xs : List V} (e : H a = some (.tup xs)) : ∃ o, h.get? a = some o ∧ o.cls = .type "tuple" := by
  obtain ⟨_, its, _, o, h1, h2, _⟩ := (show ObjOk P w H h a (.tup xs) from ok a _ e)
  exact ⟨o, h1, h2⟩

theorem call_dictT (hu : X.A.units + 64 < cLine) : CallR X (.type "dict") (fun xs H Q => ∃ (a : Addr) (kvs : List (List Key × V)) (ps : List (Int × Int)), xs = [.ref a] ∧ H a = some (.dT kvs) ∧ kvs.map (·.1) = ps.map pk ∧ ps.Nodup ∧ (∀ p ∈ ps, smallP p) ∧ ∀ p, H p = none → Q (.ref p) (upd H p (.dT kvs))) := by
  intro pins s σ H xs us Q I r q
  obtain ⟨a, kvs, ps, ex, hd, hk, hn, hs, q⟩ := q
  subst ex
  obtain ⟨u, eu, rx⟩ := vals1 r
  subst eu
  cases rx
  obtain ⟨z, lo, ms, rel, dd⟩ := dt_of I.hok hd
  have lm : kvs.length = ms.length := Paired.length rel
  have hm : (s.heap.objs.size == sysModules) = false := beq_eq_false_iff_ne.mpr (Nat.ne_of_gt I.big)
  have keys : ms.map (·.1) = ps.map pk := (KT_keys rel).trans hk
  have tups := KT_tups I.hok rel
  have hap : (ms.map fun x => (tupleKind (mixKind X.prog X.w)).hash x.1).Nodup := by
    rw [map_hash _ pk hashP (hash_pk X.prog X.w) keys]
    exact hashes_nodup hs hn
  refine dict_ofT (knd := tupleKind (mixKind X.prog X.w)) ?_ lo dd (fun x hx => tup_cls I.hok (tups x hx)) hap (by omega) (fun o' x hx => ?_) fun h' hd' hs' => ?_
  · show X.A.in1.in1.units < cLine
    rw [units_in1, units_in1]
    omega
  · obtain ⟨o, items, n, h1, h2, h3, h4⟩ := key_of I.hok (tups x hx)
    exact ⟨o, items, n, Heap.get?_push_of_some _ h1, h2, h3, h4⟩
  · obtain ⟨o, es, ep, h1, h2, h3, h4, _, h5⟩ := hd'
    refine ⟨.ref s.heap.objs.size, upd H s.heap.objs.size (.dT kvs), I.laid (t' := s.toks) (fun b u e => (hs'.2 b (Nat.ne_of_lt (Heap.lt_size e))).trans (Heap.get?_push_of_some _ e)) (Nat.le_refl _) ?_, rfl, q _ (I.hok.fresh (Nat.le_refl _))⟩
    refine ⟨z, hm, ms, rel.keeps fun c ys hc => ?_, o, es, ep, h1, h2, h3, h4, h5⟩
    rw [upd_ne (ne_of_none hc (I.hok.fresh (Nat.le_refl _)))]
    exact hc
theorem for_itemsT {d : Addr} {o : Obj} {kvs : List (List Key × V)} {g : TG} {tb : TS} {D : Ends} {σ : L2.St} {H : Hp} (Pv : Nat → L2.St → Hp → Prop) (h0 : Pv 0 σ H) (keep : ∀ i σ H, i ≤ kvs.length → Pv i σ H → H d = some (.frz o (.dT kvs)))
    (turn : ∀ i k v q T σ' H', kvs[i]? = some (k, v) → Pv i σ' H' → H' T = none → H' q = some (.tup (k.map kV)) → g (.ref T) σ' (upd H' T (.tup [.ref q, v])) fun σ2 H2 => tb { D with nx := Pv (i + 1), ct := Pv (i + 1), bk := D.nx } σ2 H2)
    (last : ∀ σ H, Pv kvs.length σ H → D.nx σ H) :
    ∃ W : Nat → Nat → L2.St → Hp → Prop, (∃ m, W 0 m σ H) ∧ ∀ i m σ H, W i m σ H →
      ((ItiT d o kvs).stop i H ∧ D.nx σ H) ∨ ((ItiT d o kvs).go i H ∧ ∃ N : L2.St → Hp → Prop, (∀ σ' H', N σ' H' → ∃ m', m' < m ∧ W (i + 1) m' σ' H') ∧ ∀ x H', (ItiT d o kvs).yld i H x H' → g x σ H' fun σ2 H2 => tb { D with nx := N, ct := N, bk := D.nx } σ2 H2) := by
  refine ⟨fun i m σ F => i + m = kvs.length ∧ Pv i σ F, ⟨kvs.length, Nat.zero_add _, h0⟩, fun i m σ F ⟨im, pv⟩ => ?_⟩
  have lst := keep i σ F (by omega) pv
  cases m with
  | zero =>
    obtain rfl : i = kvs.length := by omega
    exact .inl ⟨⟨lst, Nat.le_refl _⟩, last σ F pv⟩
  | succ m =>
    have lt : i < kvs.length := by omega
    refine .inr ⟨⟨lst, lt⟩, Pv (i + 1), fun σ' F' pv' => ⟨m, Nat.lt_succ_self m, by omega, pv'⟩, fun x F' yl => ?_⟩
    obtain ⟨T, k, v, q, hk, rfl, hT, hq, rfl⟩ := yl
    exact turn i k v q T σ F hk pv hT hq
theorem for_keysT {d : Addr} {o : Obj} {kvs : List (List Key × V)} {g : TG} {tb : TS} {D : Ends} {σ : L2.St} {H : Hp} (Pv : Nat → L2.St → Hp → Prop) (h0 : Pv 0 σ H) (keep : ∀ i σ H, i ≤ kvs.length → Pv i σ H → H d = some (.frz o (.dT kvs)))
    (turn : ∀ i k v q σ' H', kvs[i]? = some (k, v) → Pv i σ' H' → H' q = some (.tup (k.map kV)) → g (.ref q) σ' H' fun σ2 H2 => tb { D with nx := Pv (i + 1), ct := Pv (i + 1), bk := D.nx } σ2 H2)
    (last : ∀ σ H, Pv kvs.length σ H → D.nx σ H) :
    ∃ W : Nat → Nat → L2.St → Hp → Prop, (∃ m, W 0 m σ H) ∧ ∀ i m σ H, W i m σ H →
      ((Itkt d o kvs).stop i H ∧ D.nx σ H) ∨ ((Itkt d o kvs).go i H ∧ ∃ N : L2.St → Hp → Prop, (∀ σ' H', N σ' H' → ∃ m', m' < m ∧ W (i + 1) m' σ' H') ∧ ∀ x H', (Itkt d o kvs).yld i H x H' → g x σ H' fun σ2 H2 => tb { D with nx := N, ct := N, bk := D.nx } σ2 H2) := by
  refine ⟨fun i m σ F => i + m = kvs.length ∧ Pv i σ F, ⟨kvs.length, Nat.zero_add _, h0⟩, fun i m σ F ⟨im, pv⟩ => ?_⟩
  have lst := keep i σ F (by omega) pv
  cases m with
  | zero =>
    obtain rfl : i = kvs.length := by omega
    exact .inl ⟨⟨lst, Nat.le_refl _⟩, last σ F pv⟩
  | succ m =>
    have lt : i < kvs.length := by omega
    refine .inr ⟨⟨lst, lt⟩, Pv (i + 1), fun σ' F' pv' => ⟨m, Nat.lt_succ_self m, by omega, pv'⟩, fun x F' yl => ?_⟩
    obtain ⟨rfl, k, v, q, hk, rfl, hq⟩ := yl
    exact turn i k v q σ F' hk pv hq
/-- H with the dict at d locked, and unlocked again -/
theorem Same.unlock {H H' : Hp} {d : Addr} {x o : HO} (h : H d = some x) (s : Same (upd H d o) H') : Same H (upd H' d x) := fun b y e => by
  by_cases eb : b = d
  · subst eb
    rw [upd_same]
    exact h.symm.trans e
  · rw [upd_ne eb]
    exact s _ _ (by rw [upd_ne eb]; exact e)
end

/-! ### dicts from pairs to fractions -/
structure FD (K : PySem.W.Frag) (H : Hp) (a : Addr) (dom : List (Int × Int)) (f : Int × Int → Int × Int) : Prop where
  ex : ∃ kvs : List (List Key × V), H a = some (.dT kvs) ∧ All2 (fun kv p => kv.1 = pk p ∧ PrAt K H kv.2 (f p)) kvs dom
  nd : dom.Nodup
  sm : ∀ p ∈ dom, smallP p
/-- an entry row of a dict, told by its keys -/
abbrev Ents (K : PySem.W.Frag) (H : Hp) (kvs : List (List Key × V)) (dom : List (Int × Int)) (f : Int × Int → Int × Int) : Prop := All2 (fun kv p => kv.1 = pk p ∧ PrAt K H kv.2 (f p)) kvs dom
theorem Ents.tups {H H' : Hp} {kvs : List (List Key × V)} {dom : List (Int × Int)} {f : Int × Int → Int × Int} (s : TupS H H') (h : Ents K H kvs dom f) : Ents K H' kvs dom f := All2.mono h fun _ _ ⟨e, t, et, ht⟩ => ⟨e, t, et, s _ _ ht⟩
theorem FD.mono {H H' : Hp} {a : Addr} {dom : List (Int × Int)} {f : Int × Int → Int × Int} (s : Same H H') (h : FD K H a dom f) : FD K H' a dom f := by
  obtain ⟨⟨kvs, e, r⟩, nd, sm⟩ := h
  exact ⟨⟨kvs, s _ _ e, Ents.tups (TupS.of s) r⟩, nd, sm⟩
theorem Ents.get {H : Hp} {kvs : List (List Key × V)} {dom : List (Int × Int)} {f : Int × Int → Int × Int} (h : Ents K H kvs dom f) {p : Int × Int} (hp : p ∈ dom) : ∃ v, valV kvs (pk p) = some v ∧ PrAt K H v (f p) := by
  induction h with
  | nil => cases hp
  | @cons kv q xs ys h _ ih =>
    by_cases e : q = p
    · subst e
      exact ⟨kv.2, valV_pos h.1, h.2⟩
    · obtain ⟨v, e1, e2⟩ := ih ((List.mem_cons.mp hp).resolve_left (Ne.symm e))
      refine ⟨v, ?_, e2⟩
      rw [valV_neg (fun z => e (pk_inj (h.1.symm.trans z)))]
      exact e1
theorem Ents.not {H : Hp} {kvs : List (List Key × V)} {dom : List (Int × Int)} {f : Int × Int → Int × Int} (h : Ents K H kvs dom f) {p : Int × Int} (hp : p ∉ dom) : valV kvs (pk p) = none := by
  induction h with
  | nil => rfl
  | @cons kv q xs ys h _ ih =>
    rw [List.mem_cons, not_or] at hp
    rw [valV_neg (fun z => hp.1 (pk_inj (h.1.symm.trans z)).symm)]
    exact ih hp.2
theorem Ents.keys {H : Hp} {kvs : List (List Key × V)} {dom : List (Int × Int)} {f : Int × Int → Int × Int} (h : Ents K H kvs dom f) : kvs.map (·.1) = dom.map pk := by
  induction h with
  | nil => rfl
  | cons h _ ih => rw [List.map_cons, List.map_cons, ih, h.1]
theorem Ents.val {H : Hp} {kvs : List (List Key × V)} {dom : List (Int × Int)} {f g : Int × Int → Int × Int} (h : Ents K H kvs dom f) (e : ∀ p ∈ dom, f p = g p) : Ents K H kvs dom g := by
  induction h with
  | nil => exact .nil
  | @cons kv q xs ys h _ ih => exact .cons ⟨h.1, (e q (List.mem_cons_self ..)) ▸ h.2⟩ (ih fun p hp => e p (List.mem_cons_of_mem _ hp))
theorem FD.val {H : Hp} {a : Addr} {dom : List (Int × Int)} {f g : Int × Int → Int × Int} (h : FD K H a dom f) (e : ∀ p ∈ dom, f p = g p) : FD K H a dom g := by
  obtain ⟨⟨kvs, e1, r⟩, nd, sm⟩ := h
  exact ⟨⟨kvs, e1, Ents.val r e⟩, nd, sm⟩
theorem FD.nil {H : Hp} {a : Addr} {f : Int × Int → Int × Int} (h : H a = some (.dT [])) : FD K H a [] f := ⟨⟨[], h, .nil⟩, List.nodup_nil, fun _ h => nomatch h⟩
def setF (f : Int × Int → Int × Int) (p x : Int × Int) : Int × Int → Int × Int := fun q => if q = p then x else f q
/-- a new key -/
theorem FD.put {H : Hp} {a : Addr} {dom : List (Int × Int)} {f : Int × Int → Int × Int} {kvs : List (List Key × V)} {v : V} {p x : Int × Int} (nd : dom.Nodup) (sm : ∀ p ∈ dom, smallP p) (e : H a = some (.dT kvs)) (h : Ents K H kvs dom f) (hp : p ∉ dom) (hs : smallP p) (hv : PrAt K H v x) :
    FD K (upd H a (.dT (putK kvs (pk p) v))) a (dom ++ [p]) (setF f p x) := by
  rw [putK_new v (h.not hp)]
  have ts : TupS H (upd H a (.dT (kvs ++ [(pk p, v)]))) := fun t xs q => by
    rw [upd_ne (ne_of q e (fun z => nomatch z))]
    exact q
  refine ⟨⟨_, upd_same, ?_⟩, ?_, ?_⟩
  · refine All2.app (Ents.tups ts (Ents.val (g := setF f p x) h fun q hq => ?_)) (.one ⟨rfl, ?_⟩)
    · unfold setF
      rw [if_neg (fun (z : q = p) => hp (z ▸ hq))]
    · show PrAt K _ v (setF f p x p)
      unfold setF
      rw [if_pos rfl]
      obtain ⟨t, e1, e2⟩ := hv
      exact ⟨t, e1, ts _ _ e2⟩
  · rw [List.nodup_append]
    refine ⟨nd, by simp, fun u hu v hv => ?_⟩
    rw [List.mem_singleton.mp hv]
    exact fun (z : u = p) => hp (z ▸ hu)
  · intro q hq
    rcases List.mem_append.mp hq with z | z
    · exact sm q z
    · rw [List.mem_singleton.mp z]
      exact hs
/-- what stands but for the dict at a, which is new since H0 -/
theorem Same.newD {H0 H : Hp} {a : Addr} {o : HO} (s : Same H0 H) (h : H0 a = none) : Same H0 (upd H a o) := fun b x e => by
  rw [upd_ne (ne_of_none e h)]
  exact s _ _ e
theorem key_pk {H : Hp} {t : Addr} {p : Int × Int} (h : H t = some (.tup [.int p.1, .int p.2])) : H t = some (.tup ((pk p).map kV)) := h
theorem FD.few {H : Hp} {a : Addr} {dom : List (Int × Int)} {f : Int × Int → Int × Int} (h : FD K H a dom f) : ∃ kvs, H a = some (.dT kvs) ∧ kvs.length = dom.length := by
  obtain ⟨⟨kvs, e, r⟩, nd, sm⟩ := h
  exact ⟨kvs, e, r.length⟩
/-- a row of keys that hold the same has the same length -/
theorem dom_len {l m : List (Int × Int)} (h : l.Nodup) (k : m.Nodup) (e : ∀ p, p ∈ l ↔ p ∈ m) : l.length = m.length :=
  ((List.perm_ext_iff_of_nodup h k).mpr e).length_eq

/-! ### fractions in lowest terms: the mathematics -/
def lowI (t b : Int) : Int × Int := if b < 0 then ((-t) / ((Nat.gcd t.natAbs b.natAbs : Nat) : Int), (-b) / ((Nat.gcd t.natAbs b.natAbs : Nat) : Int)) else (t / ((Nat.gcd t.natAbs b.natAbs : Nat) : Int), b / ((Nat.gcd t.natAbs b.natAbs : Nat) : Int))
/-- lowest terms: x over y -/
structure Low (x y : Int) : Prop where
  pos : 0 < y
  one : Nat.gcd x.natAbs y.natAbs = 1
theorem lowI_pos {t b : Int} (h : 0 < b) : Low (lowI t b).1 (lowI t b).2 ∧ (lowI t b).1 * b = (lowI t b).2 * t ∧ (lowI t b).2 ≤ b ∧ (lowI t b).1.natAbs ≤ t.natAbs := by
  have hg : 0 < Nat.gcd t.natAbs b.natAbs := Nat.gcd_pos_of_pos_right _ (by omega)
  obtain ⟨x, hx⟩ := Nat.gcd_dvd_left t.natAbs b.natAbs
  obtain ⟨y, hy⟩ := Nat.gcd_dvd_right t.natAbs b.natAbs
  have e : lowI t b = (t / ((Nat.gcd t.natAbs b.natAbs : Nat) : Int), b / ((Nat.gcd t.natAbs b.natAbs : Nat) : Int)) := by
    unfold lowI
    rw [if_neg (by omega)]
  rw [e]
  generalize hgd : Nat.gcd t.natAbs b.natAbs = g at *
  have hg' : (g : Int) ≠ 0 := by omega
  have hb : b = (g : Int) * (y : Int) := by
    have : (b.natAbs : Int) = ((g * y : Nat) : Int) := by rw [← hy]
    rw [Int.natCast_mul] at this
    omega
  have eb : b / (g : Int) = (y : Int) := by rw [hb]; exact Int.mul_ediv_cancel_left _ hg'
  have hy0 : 0 < y := by
    rcases Nat.eq_zero_or_pos y with q | q
    · rw [q, Int.ofNat_zero, Int.mul_zero] at hb; omega
    · exact q
  have ht : t = (g : Int) * (if t < 0 then -(x : Int) else (x : Int)) := by
    have : (t.natAbs : Int) = ((g * x : Nat) : Int) := by rw [← hx]
    rw [Int.natCast_mul] at this
    split
    · rw [Int.mul_neg]; omega
    · omega
  have et : t / (g : Int) = (if t < 0 then -(x : Int) else (x : Int)) := by
    conv => lhs; rw [ht]
    exact Int.mul_ediv_cancel_left _ hg'
  have hcop : Nat.gcd x y = 1 := by
    have h1 : Nat.gcd (g * x) (g * y) = g * Nat.gcd x y := Nat.gcd_mul_left g x y
    rw [← hx, ← hy, hgd] at h1
    have h2 : g * 1 = g * Nat.gcd x y := by rw [Nat.mul_one]; exact h1
    exact (Nat.eq_of_mul_eq_mul_left hg h2).symm
  rw [eb, et]
  have hna : (if t < 0 then -(x : Int) else (x : Int)).natAbs = x := by split <;> omega
  refine ⟨⟨by omega, ?_⟩, ?_, ?_, ?_⟩
  · rw [hna, Int.natAbs_natCast]; exact hcop
  · have := ht
    generalize (if t < 0 then -(x : Int) else (x : Int)) = x' at *
    show x' * b = (y : Int) * t
    rw [hb, ht, Int.mul_left_comm x', Int.mul_left_comm (y : Int), Int.mul_comm x']
  · rw [hb]
    have : (1 : Int) * (y : Int) ≤ (g : Int) * (y : Int) := Int.mul_le_mul_of_nonneg_right (by omega) (by omega)
    omega
  · show (if t < 0 then -(x : Int) else (x : Int)).natAbs ≤ t.natAbs
    rw [hna, hx]
    exact Nat.le_mul_of_pos_left x hg
theorem lowI_neg {t b : Int} (h : b < 0) : lowI t b = lowI (-t) (-b) := by
  unfold lowI
  rw [if_pos h, if_neg (show ¬ (-b < 0) by omega), Int.natAbs_neg, Int.natAbs_neg]
theorem lowI_ok {t b : Int} (h : b ≠ 0) : Low (lowI t b).1 (lowI t b).2 ∧ (lowI t b).1 * b = (lowI t b).2 * t ∧ (lowI t b).2.natAbs ≤ b.natAbs ∧ (lowI t b).1.natAbs ≤ t.natAbs := by
  by_cases hb : 0 < b
  · obtain ⟨h1, h2, h3, h4⟩ := lowI_pos (t := t) hb
    exact ⟨h1, h2, by have := h1.pos; omega, h4⟩
  · have hn : b < 0 := by omega
    obtain ⟨h1, h2, h3, h4⟩ := lowI_pos (t := -t) (b := -b) (by omega)
    rw [← lowI_neg hn] at h1 h2 h3 h4
    refine ⟨h1, ?_, by have := h1.pos; omega, by rw [Int.natAbs_neg] at h4; exact h4⟩
    rw [Int.mul_neg, Int.mul_neg] at h2
    omega
theorem lowI_self {x y : Int} (h : Low x y) : lowI x y = (x, y) := by
  unfold lowI
  have := h.pos
  rw [if_neg (by omega), h.one]
  simp
/-- two in lowest terms that are worth the same are the same -/
theorem low_same {x y u v : Int} (h : Low x y) (k : Low u v) (e : x * v = u * y) : x = u ∧ y = v := by
  have hy := h.pos
  have hv := k.pos
  have e' : x.natAbs * v.natAbs = u.natAbs * y.natAbs := by rw [← Int.natAbs_mul, ← Int.natAbs_mul, e]
  have d1 : y.natAbs ∣ v.natAbs := by
    have : y.natAbs ∣ x.natAbs * v.natAbs := by rw [e']; exact Nat.dvd_mul_left _ _
    exact (Nat.Coprime.symm (show Nat.Coprime x.natAbs y.natAbs from h.one)).dvd_of_dvd_mul_left this
  have d2 : v.natAbs ∣ y.natAbs := by
    have : v.natAbs ∣ u.natAbs * y.natAbs := by rw [← e']; exact Nat.dvd_mul_left _ _
    exact (Nat.Coprime.symm (show Nat.Coprime u.natAbs v.natAbs from k.one)).dvd_of_dvd_mul_left this
  have ey : y.natAbs = v.natAbs := Nat.dvd_antisymm d1 d2
  have eyv : y = v := by omega
  subst eyv
  exact ⟨Int.eq_of_mul_eq_mul_right (by omega) e, rfl⟩
theorem fdiv_lowN {t g : Int} (hg : 0 < g) : t.fdiv (-g) = (-t) / g := by
  have e : t.fdiv (-g) = (-(-t)).fdiv (-g) := by rw [Int.neg_neg]
  rw [e, Int.neg_fdiv_neg, Int.fdiv_eq_ediv_of_nonneg _ (by omega)]
theorem fdiv_lowP {t g : Int} (hg : 0 < g) : t.fdiv g = t / g := Int.fdiv_eq_ediv_of_nonneg _ (by omega)
theorem gcd_log {t b : Int} (h : b ≠ 0) (hb : b.natAbs.log2 < 9000) : ((Nat.gcd t.natAbs b.natAbs : Nat) : Int).natAbs.log2 < 9000 := by
  rw [Int.natAbs_natCast]
  have h1 : Nat.gcd t.natAbs b.natAbs ≤ b.natAbs := Nat.gcd_le_right _ (by omega)
  have h2 : b.natAbs < 2 ^ (b.natAbs.log2 + 1) := Nat.lt_log2_self
  have h3 : (Nat.gcd t.natAbs b.natAbs).log2 < b.natAbs.log2 + 1 := PySem.Flt.log2_lt_of (by omega) (Nat.lt_of_le_of_lt h1 h2)
  omega

/-! ### whole, low, part -/
def sp_whole : Sp := fun vs H Q _ => ∃ n : Int, vs = [.int n] ∧ Q (.bl true) H
theorem ok__law_whole (T : Env K mg) (su : SupP flM P) : FnOk P w K mg base CX0 1 T.a__law_whole T.fd__law_whole ["_law_found"] sp_whole := by
  refine T.F__law_whole.ok sc__law_whole (fun vs H Q E h => ?_) (fun cdv A outer s H vs Q E hr h => ?_)
  · obtain ⟨n, rfl, _⟩ := h
    rfl
  · obtain ⟨n, rfl, q⟩ := h
    refine ⟨_, (pss_one (ps_ret (pe_and (pe_callB call_isi (by rfl) T.m_isinstance (by decide +kernel) (pa_cons (pv 0) (pa_cons (pe_bltn (v := .ty "int") (u := .type "int") (by rfl) T.m_int (by decide +kernel) rfl) pa_nil))) (pe_one (pe_not (pe_callB call_isi (by rfl) T.m_isinstance (by decide +kernel) (pa_cons (pv 0) (pa_cons (pe_bltn (v := .ty "bool") (u := .type "bool") (by rfl) T.m_bool (by decide +kernel) rfl) pa_nil)))))))), ?_⟩
    refine ⟨_, rfl, _, _, _, _, _, rfl, .ty _, .base (.int _), kit_ty (by decide +kernel), true, rfl, iteT ?_⟩
    exact ⟨_, rfl, _, _, _, _, _, rfl, .ty _, .base (.int _), kit_ty (by decide +kernel), false, rfl, q⟩
def sp_low : Sp := fun vs H Q _ => ∃ t b : Int, vs = [.int t, .int b] ∧ b ≠ 0 ∧ b.natAbs.log2 < 9000 ∧
  ∀ p, H p = none → Q (.ref p) (upd H p (.tup [.int (lowI t b).1, .int (lowI t b).2]))
theorem gcd_turn {a b : Nat} (h : 0 < b) : Nat.gcd b (a % b) = Nat.gcd a b := by
  rw [Nat.gcd_comm a b, Nat.gcd_rec b a, Nat.gcd_comm]
theorem ok__law_low (T : Env K mg) (su : SupP flM P) : FnOk P w K mg base CX0 1 T.a__law_low T.fd__law_low ["_law_top", "_law_bottom"] sp_low := by
  refine T.F__law_low.ok sc__law_low (fun vs H Q E h => ?_) (fun cdv A outer s H vs Q E hr h => ?_)
  · obtain ⟨t, b, rfl, _⟩ := h
    rfl
  · obtain ⟨t, b, rfl, hb, hlog, q⟩ := h
    refine ⟨_, (pss_cons (ps_set (i := 2) sc__law_low.nd rfl (.inl rfl) (pe_callB call_abs (by rfl) T.m_abs (by decide +kernel) (pa_cons (pv 0) pa_nil)))
 (pss_cons (ps_set (i := 3) sc__law_low.nd rfl (.inl rfl) (pe_callB call_abs (by rfl) T.m_abs (by decide +kernel) (pa_cons (pv 1) pa_nil)))
 (pss_cons (ps_while PassesOwn.never (pt_cmpR op_gt (pv 3) pe_int (nomark _))
 (pss_one (ps_par (i := 2) (j := 3) (by rfl) sc__law_low.nd rfl rfl (by decide) rfl rfl (pa_cons (pv 3) (pa_cons (pe_op op_mod (pv 2) (pv 3)) pa_nil)) (by rfl))))
 (C8.pss_cut (ps_if (pt_cmpR op_lt (pv 1) pe_int (nomark _))
 (pss_cons (ps_set (i := 0) sc__law_low.nd rfl (.inl rfl) (pe_un un_neg (pv 0)))
 (pss_one (ps_set (i := 1) sc__law_low.nd rfl (.inl rfl) (pe_un un_neg (pv 1)))))
 pss_nil)
 (pss_one (ps_ret (pe_tup (pa_cons (pe_op op_fdivX (pv 0) (pv 2)) (pa_cons (pe_op op_fdivX (pv 1) (pv 2)) pa_nil))))))))), ?_⟩
    refine ⟨_, rfl, _, rfl, _, rfl, _, rfl, ?_⟩
    have ab : ∀ z : Int, (if z < 0 then -z else z) = (z.natAbs : Int) := fun z => by split <;> omega
    rw [ab, ab]
    refine while_by (fun σ H' => H = H' ∧ ∃ x y : Nat, σ = [some (.int t), some (.int b), some (.int (x : Int)), some (.int (y : Int))] ∧ Nat.gcd x y = Nat.gcd t.natAbs b.natAbs)
      (fun σ _ => match σ with | [_, _, _, some (.int y)] => y.toNat | _ => 0) ⟨rfl, _, _, rfl, rfl⟩ ?_ ?_
    · rintro _ _ ⟨rfl, x, y, rfl, hg⟩
      refine ⟨_, rfl, _, _, rfl, rfl, _, rfl, ite2 (fun hd => ?_) (fun hd => ?_)⟩
      · have hy : 0 < y := by have := of_decide_eq_true hd; omega
        refine ⟨_, rfl, _, rfl, _, rfl, _, _, rfl, rfl, by omega, _, _, rfl, ⟨rfl, y, x % y, ?_, ?_⟩, ?_⟩
        · rw [Int.natCast_emod]; rfl
        · rw [gcd_turn hy]; exact hg
        · show ((x : Int) % (y : Int)).toNat < ((y : Int)).toNat
          have : x % y < y := Nat.mod_lt _ hy
          rw [← Int.natCast_emod]
          omega
      · have hy : y = 0 := by have h1 : ¬ ((0 : Int) < (y : Int)) := nd hd; omega
        subst hy
        rw [Nat.gcd_zero_right] at hg
        have hgp : 0 < Nat.gcd t.natAbs b.natAbs := Nat.gcd_pos_of_pos_right _ (by omega)
        have hgl := gcd_log (t := t) hb hlog
        rw [hg]
        generalize hG : Nat.gcd t.natAbs b.natAbs = g at *
        refine ⟨fun σ' H2 => H = H2 ∧ ∃ y0 : Option V, ((b < 0 ∧ σ' = [some (.int (-t)), some (.int (-b)), some (.int (g : Int)), y0]) ∨ (¬ b < 0 ∧ σ' = [some (.int t), some (.int b), some (.int (g : Int)), y0])), ?_, ?_⟩
        · refine ⟨_, rfl, _, _, rfl, rfl, _, rfl, ite2 (fun hd => ?_) (fun hd => ?_)⟩
          · exact ⟨_, rfl, _, rfl, _, rfl, _, rfl, rfl, _, .inl ⟨of_decide_eq_true hd, rfl⟩⟩
          · exact ⟨rfl, _, .inr ⟨nd hd, rfl⟩⟩
        · rintro σ' H2 ⟨rfl, y0, ⟨hn, rfl⟩ | ⟨hn, rfl⟩⟩
          · refine ⟨_, rfl, _, rfl, _, _, rfl, rfl, ⟨by omega, hgl⟩, _, rfl, _, rfl, _, _, rfl, rfl, ⟨by omega, hgl⟩, (by show 2 ≤ sizeLine; decide), fun p hp => ?_⟩
            have := q p hp
            unfold lowI at this
            rw [if_pos hn, hG] at this
            show Q (.ref p) (upd H p (.tup [.int ((-t).fdiv (g : Int)), .int ((-b).fdiv (g : Int))]))
            rw [fdiv_lowP (by omega), fdiv_lowP (by omega)]
            exact this
          · refine ⟨_, rfl, _, rfl, _, _, rfl, rfl, ⟨by omega, hgl⟩, _, rfl, _, rfl, _, _, rfl, rfl, ⟨by omega, hgl⟩, (by show 2 ≤ sizeLine; decide), fun p hp => ?_⟩
            have := q p hp
            unfold lowI at this
            rw [if_neg hn, hG] at this
            show Q (.ref p) (upd H p (.tup [.int (t.fdiv (g : Int)), .int (b.fdiv (g : Int))]))
            rw [fdiv_lowP (by omega), fdiv_lowP (by omega)]
            exact this
    · rintro σ H' Q1 Q2 hQ ⟨v, e, i, j, e1, e2, k, e3, q1⟩
      exact ⟨v, e, i, j, e1, e2, k, e3, hQ _ _ q1⟩
/-- what is told of a pair of ints: whether it is a fraction in lowest terms -/
def sp_part (K : PySem.W.Frag) : Sp := fun vs H Q _ => ∃ (p : Addr) (x y : Int), vs = [.ref p] ∧ H p = some (.tup [.int x, .int y]) ∧ Low x y ∧ y.natAbs.log2 < 9000 ∧ ∀ H', Same H H' → Q (.bl true) H'
theorem ok__law_part (T : Env K mg) (su : SupP flM P) : FnOk P w K mg base CX0 2 T.a__law_part T.fd__law_part ["_law_found"] (sp_part K) := by
  refine T.F__law_part.ok sc__law_part (fun vs H Q E h => ?_) (fun cdv A outer s H vs Q E hr h => ?_)
  · obtain ⟨p, x, y, rfl, _⟩ := h
    rfl
  · obtain ⟨p, x, y, rfl, hp, hL, hlog, q⟩ := h
    refine ⟨_, (pss_cons (ps_if (PW.pt (pw_or (pt_not (pt_val (pe_callB call_isi (by rfl) T.m_isinstance (by decide +kernel) (pa_cons (pv 0) (pa_cons (pe_bltn (v := .ty "tuple") (u := .type "tuple") (by rfl) T.m_tuple (by decide +kernel) rfl) pa_nil))))) (pw_or1 (pt_cmpR op_ne (pe_callB (id := "len") call_len_seq (by rfl) T.m_len (by decide +kernel) (pa_cons (pv 0) pa_nil)) pe_int (nomark _)))))
 (pss_one (ps_ret pe_bl))
 pss_nil)
 (pss_cons (ps_if (PW.pt (pw_or (pt_not (pt_val (pe_call (ok__law_whole T su) (hr.mono (by decide)) (by rfl) T.g__law_whole T.F__law_whole.kp T.b__law_whole .nil pass0 (pa_cons (pe_ix ix_tup (pv 0) pe_int (fun _ _ => rfl)) pa_nil)))) (pw_or (pt_not (pt_val (pe_call (ok__law_whole T su) (hr.mono (by decide)) (by rfl) T.g__law_whole T.F__law_whole.kp T.b__law_whole .nil pass0 (pa_cons (pe_ix ix_tup (pv 0) pe_int (fun _ _ => rfl)) pa_nil)))) (pw_or1 (pt_cmpR op_le (pe_ix ix_tup (pv 0) pe_int (fun _ _ => rfl)) pe_int (nomark _))))))
 (pss_one (ps_ret pe_bl))
 pss_nil)
 (pss_one (ps_ret (pe_cmpR (op_eqD hr.units) (pe_call (ok__law_low T su) (hr.mono (by decide)) (by rfl) T.g__law_low T.F__law_low.kp T.b__law_low .nil pass0 (pa_cons (pe_ix ix_tup (pv 0) pe_int (fun _ _ => rfl)) (pa_cons (pe_ix ix_tup (pv 0) pe_int (fun _ _ => rfl)) pa_nil))) (pv 0) (nomark _)))))), ?_⟩
    have hS : SqT K H p [.int x, .int y] := .inl (.inl hp)
    have hpos := hL.pos
    refine ⟨_, rfl, _, _, _, _, _, rfl, .ty _, .base (.tup hp), kit_ty (by decide +kernel), true, rfl, ?_⟩
    show if false = true then _ else _
    rw [if_neg Bool.false_ne_true]
    refine ⟨_, rfl, _, _, rfl, .inr hS, rfl, _, rfl, ?_⟩
    refine iteNS rfl ?_
    refine ⟨_, rfl, _, _, _, _, rfl, rfl, hS, atI_nat (j := 0) rfl, _, rfl, true, rfl, iteF ?_⟩
    refine ⟨_, rfl, _, _, _, _, rfl, rfl, hS, atI_nat (j := 1) rfl, _, rfl, true, rfl, iteF ?_⟩
    refine ⟨_, rfl, _, _, _, _, rfl, rfl, hS, atI_nat (j := 1) rfl, _, _, rfl, rfl, _, rfl, ?_⟩
    rw [decide_eq_false (show ¬ y ≤ 0 by omega)]
    refine iteF ?_
    refine ⟨_, rfl, _, _, _, _, rfl, rfl, hS, atI_nat (j := 0) rfl, _, rfl, _, _, _, _, rfl, rfl, hS, atI_nat (j := 1) rfl, x, y, rfl, by omega, hlog, fun r hr' => ?_⟩
    rw [lowI_self hL]
    have hd : ∀ z H2, H2 z = some (.tup [.int x, .int y]) → Dp K H2 (.ref z) (.tuple [.int x, .int y]) := fun z H2 e => .tup (.inl (.inl e)) (.cons (.int x) (.cons (.int y) .nil))
    have hpr : p ≠ r := ne_of_none hp hr'
    refine ⟨_, rfl, _, _, hd r _ upd_same, hd p _ (by rw [upd_ne hpr]; exact hp), rfl, rfl, ?_⟩
    rw [SeqAt.eqv_refl _ (by rfl)]
    exact q _ (same_new hr')

/-! ### posts parted into plots: the mathematics -/
inductive Tr where
  | lf : Tr
  | nd (m : Int) (l r : Tr) : Tr
def TOk (S : Int → Prop) : Int → Int → Tr → Prop
  | lo, hi, .lf => lo < hi ∧ ∀ z, S z → ¬ (lo < z ∧ z < hi)
  | lo, hi, .nd m l r => S m ∧ TOk S lo m l ∧ TOk S m hi r
def tie : Int → Int → Tr → Int → Int → Prop
  | lo, hi, .lf, a, b => a = lo ∧ b = hi
  | lo, hi, .nd m l r, a, b => (a = lo ∧ b = hi) ∨ tie lo m l a b ∨ tie m hi r a b
def graft (v : Int) : Int → Int → Tr → Tr
  | lo, hi, .lf => if lo < v ∧ v < hi then .nd v .lf .lf else .lf
  | lo, hi, .nd m l r => .nd m (graft v lo m l) (graft v m hi r)
theorem TOk.lt {S : Int → Prop} : ∀ {T : Tr} {lo hi : Int}, TOk S lo hi T → lo < hi
  | .lf, _, _, h => h.1
  | .nd m l r, _, _, ⟨_, h1, h2⟩ => Int.lt_trans h1.lt h2.lt
theorem tie_root : ∀ {T : Tr} {lo hi : Int}, tie lo hi T lo hi
  | .lf, _, _ => ⟨rfl, rfl⟩
  | .nd _ _ _, _, _ => .inl ⟨rfl, rfl⟩
theorem tie_in {S : Int → Prop} : ∀ {T : Tr} {lo hi a b : Int}, TOk S lo hi T → tie lo hi T a b → lo ≤ a ∧ a < b ∧ b ≤ hi
  | .lf, lo, hi, a, b, h, ⟨e1, e2⟩ => by subst e1; subst e2; exact ⟨Int.le_refl _, h.1, Int.le_refl _⟩
  | .nd m l r, lo, hi, a, b, ⟨_, h1, h2⟩, t => by
    have q1 := h1.lt
    have q2 := h2.lt
    rcases t with ⟨e1, e2⟩ | t | t
    · subst e1; subst e2; exact ⟨Int.le_refl _, Int.lt_trans q1 q2, Int.le_refl _⟩
    · have := tie_in h1 t; omega
    · have := tie_in h2 t; omega
theorem tie_S {S : Int → Prop} : ∀ {T : Tr} {lo hi a b : Int}, TOk S lo hi T → S lo → S hi → tie lo hi T a b → S a ∧ S b
  | .lf, lo, hi, a, b, h, s1, s2, ⟨e1, e2⟩ => by subst e1; subst e2; exact ⟨s1, s2⟩
  | .nd m l r, lo, hi, a, b, ⟨sm, h1, h2⟩, s1, s2, t => by
    rcases t with ⟨e1, e2⟩ | t | t
    · subst e1; subst e2; exact ⟨s1, s2⟩
    · exact tie_S h1 s1 sm t
    · exact tie_S h2 sm s2 t
theorem tie_adj {S : Int → Prop} : ∀ {T : Tr} {lo hi a b : Int}, TOk S lo hi T → S lo → S hi → S a → S b → a < b → (∀ z, S z → ¬ (a < z ∧ z < b)) → lo ≤ a → b ≤ hi → tie lo hi T a b
  | .lf, lo, hi, a, b, h, s1, s2, sa, sb, hab, hz, h1, h2 => by
    have := h.2 a sa
    have := h.2 b sb
    exact ⟨by omega, by omega⟩
  | .nd m l r, lo, hi, a, b, ⟨sm, h1, h2⟩, s1, s2, sa, sb, hab, hz, g1, g2 => by
    have := hz m sm
    by_cases hm : b ≤ m
    · exact .inr (.inl (tie_adj h1 s1 sm sa sb hab hz g1 hm))
    · exact .inr (.inr (tie_adj h2 sm s2 sa sb hab hz (by omega) g2))
theorem nocross {S : Int → Prop} : ∀ {T : Tr} {lo hi a b c d : Int}, TOk S lo hi T → tie lo hi T a b → tie lo hi T c d → a < c → c < b → b < d → False
  | .lf, lo, hi, a, b, c, d, h, ⟨e1, e2⟩, ⟨e3, e4⟩, h1, h2, h3 => by omega
  | .nd m l r, lo, hi, a, b, c, d, ⟨sm, k1, k2⟩, t, u, h1, h2, h3 => by
    have q1 := k1.lt
    have q2 := k2.lt
    rcases t with ⟨e1, e2⟩ | t | t <;> rcases u with ⟨e3, e4⟩ | u | u
    · omega
    · have := tie_in k1 u; omega
    · have := tie_in k2 u; omega
    · have := tie_in k1 t; omega
    · exact nocross k1 t u h1 h2 h3
    · have := tie_in k1 t; have := tie_in k2 u; omega
    · have := tie_in k2 t; omega
    · have := tie_in k2 t; have := tie_in k1 u; omega
    · exact nocross k2 t u h1 h2 h3
theorem inner {S : Int → Prop} : ∀ {T : Tr} {lo hi a b : Int}, TOk S lo hi T → tie lo hi T a b → (∀ z, S z → ¬ (a < z ∧ z < b)) ∨ ∃ m, a < m ∧ m < b ∧ tie lo hi T a m ∧ tie lo hi T m b
  | .lf, lo, hi, a, b, h, ⟨e1, e2⟩ => by subst e1; subst e2; exact .inl h.2
  | .nd m l r, lo, hi, a, b, ⟨sm, k1, k2⟩, t => by
    rcases t with ⟨e1, e2⟩ | t | t
    · subst e1; subst e2; exact .inr ⟨m, k1.lt, k2.lt, .inr (.inl tie_root), .inr (.inr tie_root)⟩
    · rcases inner k1 t with q | ⟨x, q1, q2, q3, q4⟩
      · exact .inl q
      · exact .inr ⟨x, q1, q2, .inr (.inl q3), .inr (.inl q4)⟩
    · rcases inner k2 t with q | ⟨x, q1, q2, q3, q4⟩
      · exact .inl q
      · exact .inr ⟨x, q1, q2, .inr (.inr q3), .inr (.inr q4)⟩
theorem outer {S : Int → Prop} : ∀ {T : Tr} {lo hi a b : Int}, TOk S lo hi T → tie lo hi T a b → ¬ (a = lo ∧ b = hi) → ∃ p, (p < a ∧ tie lo hi T p a ∧ tie lo hi T p b) ∨ (b < p ∧ tie lo hi T a p ∧ tie lo hi T b p)
  | .lf, lo, hi, a, b, h, t, n => absurd t n
  | .nd m l r, lo, hi, a, b, ⟨sm, k1, k2⟩, t, n => by
    rcases t with t | t | t
    · exact absurd t n
    · by_cases e : a = lo ∧ b = m
      · obtain ⟨e1, e2⟩ := e; subst e1; subst e2
        exact ⟨hi, .inr ⟨k2.lt, .inl ⟨rfl, rfl⟩, .inr (.inr tie_root)⟩⟩
      · obtain ⟨p, q | q⟩ := outer k1 t e
        · exact ⟨p, .inl ⟨q.1, .inr (.inl q.2.1), .inr (.inl q.2.2)⟩⟩
        · exact ⟨p, .inr ⟨q.1, .inr (.inl q.2.1), .inr (.inl q.2.2)⟩⟩
    · by_cases e : a = m ∧ b = hi
      · obtain ⟨e1, e2⟩ := e; subst e1; subst e2
        exact ⟨lo, .inl ⟨k1.lt, .inr (.inl tie_root), .inl ⟨rfl, rfl⟩⟩⟩
      · obtain ⟨p, q | q⟩ := outer k2 t e
        · exact ⟨p, .inl ⟨q.1, .inr (.inr q.2.1), .inr (.inr q.2.2)⟩⟩
        · exact ⟨p, .inr ⟨q.1, .inr (.inr q.2.1), .inr (.inr q.2.2)⟩⟩
theorem TOk.more {S S' : Int → Prop} : ∀ {T : Tr} {lo hi : Int}, TOk S lo hi T → (∀ z, S z → S' z) → (∀ z, S' z → lo < z → z < hi → S z) → TOk S' lo hi T
  | .lf, lo, hi, h, s1, s2 => ⟨h.1, fun z hz hh => h.2 z (s2 z hz hh.1 hh.2) hh⟩
  | .nd m l r, lo, hi, ⟨sm, k1, k2⟩, s1, s2 => ⟨s1 m sm, k1.more s1 fun z hz h1 h2 => s2 z hz h1 (Int.lt_trans h2 k2.lt), k2.more s1 fun z hz h1 h2 => s2 z hz (Int.lt_trans k1.lt h1) h2⟩
theorem graft_ok {S S' : Int → Prop} {v : Int} : ∀ {T : Tr} {lo hi : Int}, TOk S lo hi T → (∀ z, S' z ↔ S z ∨ z = v) → TOk S' lo hi (graft v lo hi T)
  | .lf, lo, hi, h, s => by
    unfold graft
    by_cases e : lo < v ∧ v < hi
    · rw [if_pos e]
      refine ⟨(s v).mpr (.inr rfl), ⟨e.1, fun z hz hh => ?_⟩, e.2, fun z hz hh => ?_⟩
      · rcases (s z).mp hz with hz | hz
        · exact h.2 z hz ⟨hh.1, by omega⟩
        · omega
      · rcases (s z).mp hz with hz | hz
        · exact h.2 z hz ⟨by omega, hh.2⟩
        · omega
    · rw [if_neg e]
      refine ⟨h.1, fun z hz hh => ?_⟩
      rcases (s z).mp hz with hz | hz
      · exact h.2 z hz hh
      · exact e (hz ▸ hh)
  | .nd m l r, lo, hi, ⟨sm, k1, k2⟩, s => ⟨(s m).mpr (.inl sm), graft_ok k1 s, graft_ok k2 s⟩
theorem graft_same {S : Int → Prop} {v : Int} : ∀ {T : Tr} {lo hi : Int}, TOk S lo hi T → ¬ (lo < v ∧ v < hi) → graft v lo hi T = T
  | .lf, lo, hi, h, n => by unfold graft; rw [if_neg n]
  | .nd m l r, lo, hi, ⟨sm, k1, k2⟩, n => by
    have q1 := k1.lt
    have q2 := k2.lt
    unfold graft
    rw [graft_same k1 (by omega), graft_same k2 (by omega)]
theorem graft_tie {S : Int → Prop} {v p q : Int} (nv : ¬ S v) (sp : S p) (sq : S q) (hp : p < v) (hq : v < q) (hz : ∀ z, S z → ¬ (p < z ∧ z < q)) :
    ∀ {T : Tr} {lo hi : Int}, TOk S lo hi T → S lo → S hi → lo < v → v < hi → ∀ a b, tie lo hi (graft v lo hi T) a b ↔ tie lo hi T a b ∨ (a = p ∧ b = v) ∨ (a = v ∧ b = q)
  | .lf, lo, hi, h, s1, s2, g1, g2, a, b => by
    unfold graft
    rw [if_pos ⟨g1, g2⟩]
    have := h.2 p sp
    have := h.2 q sq
    have := hz lo s1
    have := hz hi s2
    have e1 : p = lo := by omega
    have e2 : q = hi := by omega
    subst e1; subst e2
    exact Iff.rfl
  | .nd m l r, lo, hi, ⟨sm, k1, k2⟩, s1, s2, g1, g2, a, b => by
    have hm : m ≠ v := fun e => nv (e ▸ sm)
    unfold graft
    show (_ ∨ tie lo m (graft v lo m l) a b ∨ tie m hi (graft v m hi r) a b) ↔ (_ ∨ _ ∨ _) ∨ _
    by_cases h : v < m
    · rw [graft_same k2 (by omega), graft_tie nv sp sq hp hq hz k1 s1 sm g1 h a b]
      constructor
      · rintro (h | (h | h) | h)
        · exact .inl (.inl h)
        · exact .inl (.inr (.inl h))
        · exact .inr h
        · exact .inl (.inr (.inr h))
      · rintro ((h | h | h) | h)
        · exact .inl h
        · exact .inr (.inl (.inl h))
        · exact .inr (.inr h)
        · exact .inr (.inl (.inr h))
    · rw [graft_same k1 (by omega), graft_tie nv sp sq hp hq hz k2 sm s2 (by omega) g2 a b]
      constructor
      · rintro (h | h | h | h)
        · exact .inl (.inl h)
        · exact .inl (.inr (.inl h))
        · exact .inl (.inr (.inr h))
        · exact .inr h
      · rintro ((h | h | h) | h)
        · exact .inl h
        · exact .inr (.inl h)
        · exact .inr (.inr (.inl h))
        · exact .inr (.inr (.inr h))
/-- neighbours among S, or the first and the last -/
def side (S : Int → Prop) (lo hi a b : Int) : Prop := (∀ z, S z → ¬ (a < z ∧ z < b)) ∨ (a = lo ∧ b = hi)
structure Cut (S : Int → Prop) (lo hi : Int) (R : List (Int × Int)) : Prop where
  slo : S lo
  shi : S hi
  bd : ∀ z, S z → lo ≤ z ∧ z ≤ hi
  nd : R.Nodup
  ex : ∃ T, TOk S lo hi T ∧ ∀ a b, (a, b) ∈ R ↔ tie lo hi T a b ∧ ¬ side S lo hi a b
theorem ear_mid {S S' : Int → Prop} {lo hi v p q : Int} {R : List (Int × Int)} (h : Cut S lo hi R) (s : ∀ z, S' z ↔ S z ∨ z = v) (nv : ¬ S v) (sp : S p) (sq : S q) (hp : p < v) (hq : v < q) (hz : ∀ z, S z → ¬ (p < z ∧ z < q)) (hr : ¬ (p = lo ∧ q = hi)) :
    Cut S' lo hi ((p, q) :: R) := by
  obtain ⟨T, hT, hR⟩ := h.ex
  have b1 := h.bd p sp
  have b2 := h.bd q sq
  have hpq := tie_adj hT h.slo h.shi sp sq (Int.lt_trans hp hq) hz b1.1 b2.2
  refine ⟨(s lo).mpr (.inl h.slo), (s hi).mpr (.inl h.shi), fun z hz => ?_, List.nodup_cons.mpr ⟨fun hm => ?_, h.nd⟩, graft v lo hi T, graft_ok hT s, fun a b => ?_⟩
  · rcases (s z).mp hz with hz | hz
    · exact h.bd z hz
    · omega
  · exact ((hR p q).mp hm).2 (.inl hz)
  · rw [graft_tie nv sp sq hp hq hz hT h.slo h.shi (by omega) (by omega) a b, List.mem_cons, hR a b]
    constructor
    · rintro (e | ⟨t, n⟩)
      · obtain ⟨rfl, rfl⟩ := Prod.mk.inj e
        refine ⟨.inl hpq, ?_⟩
        rintro (w | w)
        · exact w v ((s v).mpr (.inr rfl)) ⟨hp, hq⟩
        · exact hr w
      · refine ⟨.inl t, ?_⟩
        rintro (w | w)
        · exact n (.inl fun z hz => w z ((s z).mpr (.inl hz)))
        · exact n (.inr w)
    · rintro ⟨t | ⟨e1, e2⟩ | ⟨e1, e2⟩, n⟩
      · by_cases e : (a, b) = (p, q)
        · exact .inl e
        · refine .inr ⟨t, ?_⟩
          rintro (w | w)
          · apply n
            left
            intro z hz' hh
            rcases (s z).mp hz' with hz' | hz'
            · exact w z hz' hh
            · subst hz'
              have u := tie_S hT h.slo h.shi t
              have w1 := w p sp
              have w2 := w q sq
              have w3 := hz a u.1
              have w4 := hz b u.2
              have e1 : a = p := by omega
              have e2 : b = q := by omega
              exact e (by rw [e1, e2])
          · exact n (.inr w)
      · subst e1; subst e2
        exact absurd (.inl fun z hz' hh => by
          rcases (s z).mp hz' with hz' | hz'
          · exact hz z hz' ⟨hh.1, by omega⟩
          · omega) n
      · subst e1; subst e2
        exact absurd (.inl fun z hz' hh => by
          rcases (s z).mp hz' with hz' | hz'
          · exact hz z hz' ⟨by omega, hh.2⟩
          · omega) n
theorem ear_first {S S' : Int → Prop} {lo hi v x : Int} {R : List (Int × Int)} (h : Cut S lo hi R) (s : ∀ z, S' z ↔ S z ∨ z = v) (hv : v < lo) (sx : S x) (hx : lo < x ∧ x < hi) : Cut S' v hi ((lo, hi) :: R) := by
  obtain ⟨T, hT, hR⟩ := h.ex
  have hlt := hT.lt
  refine ⟨(s v).mpr (.inr rfl), (s hi).mpr (.inl h.shi), fun z hz => ?_, List.nodup_cons.mpr ⟨fun hm => ?_, h.nd⟩, .nd lo .lf T, ⟨(s lo).mpr (.inl h.slo), ⟨hv, fun z hz hh => ?_⟩, ?_⟩, fun a b => ?_⟩
  · rcases (s z).mp hz with hz | hz
    · have := h.bd z hz; omega
    · omega
  · exact ((hR lo hi).mp hm).2 (.inr ⟨rfl, rfl⟩)
  · rcases (s z).mp hz with hz | hz
    · have := h.bd z hz; omega
    · omega
  · exact hT.more (fun z hz => (s z).mpr (.inl hz)) fun z hz h1 h2 => ((s z).mp hz).resolve_right (by omega)
  · rw [List.mem_cons, hR a b]
    constructor
    · rintro (e | ⟨t, n⟩)
      · obtain ⟨rfl, rfl⟩ := Prod.mk.inj e
        refine ⟨.inr (.inr tie_root), ?_⟩
        rintro (w | w)
        · exact w x ((s x).mpr (.inl sx)) hx
        · omega
      · refine ⟨.inr (.inr t), ?_⟩
        have ti := tie_in hT t
        rintro (w | w)
        · exact n (.inl fun z hz => w z ((s z).mpr (.inl hz)))
        · omega
    · rintro ⟨⟨e1, e2⟩ | ⟨e1, e2⟩ | t, n⟩
      · exact absurd (.inr ⟨e1, e2⟩) n
      · refine absurd (.inl fun z hz hh => ?_) n
        rcases (s z).mp hz with hz | hz
        · have := h.bd z hz; omega
        · omega
      · have ti := tie_in hT t
        by_cases e : (a, b) = (lo, hi)
        · exact .inl e
        · refine .inr ⟨t, ?_⟩
          rintro (w | w)
          · refine n (.inl fun z hz hh => ?_)
            rcases (s z).mp hz with hz | hz
            · exact w z hz hh
            · omega
          · exact e (by rw [w.1, w.2])
theorem ear_last {S S' : Int → Prop} {lo hi v x : Int} {R : List (Int × Int)} (h : Cut S lo hi R) (s : ∀ z, S' z ↔ S z ∨ z = v) (hv : hi < v) (sx : S x) (hx : lo < x ∧ x < hi) : Cut S' lo v ((lo, hi) :: R) := by
  obtain ⟨T, hT, hR⟩ := h.ex
  have hlt := hT.lt
  refine ⟨(s lo).mpr (.inl h.slo), (s v).mpr (.inr rfl), fun z hz => ?_, List.nodup_cons.mpr ⟨fun hm => ?_, h.nd⟩, .nd hi T .lf, ⟨(s hi).mpr (.inl h.shi), ?_, ⟨hv, fun z hz hh => ?_⟩⟩, fun a b => ?_⟩
  · rcases (s z).mp hz with hz | hz
    · have := h.bd z hz; omega
    · omega
  · exact ((hR lo hi).mp hm).2 (.inr ⟨rfl, rfl⟩)
  · exact hT.more (fun z hz => (s z).mpr (.inl hz)) fun z hz h1 h2 => ((s z).mp hz).resolve_right (by omega)
  · rcases (s z).mp hz with hz | hz
    · have := h.bd z hz; omega
    · omega
  · rw [List.mem_cons, hR a b]
    constructor
    · rintro (e | ⟨t, n⟩)
      · obtain ⟨rfl, rfl⟩ := Prod.mk.inj e
        refine ⟨.inr (.inl tie_root), ?_⟩
        rintro (w | w)
        · exact w x ((s x).mpr (.inl sx)) hx
        · omega
      · refine ⟨.inr (.inl t), ?_⟩
        have ti := tie_in hT t
        rintro (w | w)
        · exact n (.inl fun z hz => w z ((s z).mpr (.inl hz)))
        · omega
    · rintro ⟨⟨e1, e2⟩ | t | ⟨e1, e2⟩, n⟩
      · exact absurd (.inr ⟨e1, e2⟩) n
      · have ti := tie_in hT t
        by_cases e : (a, b) = (lo, hi)
        · exact .inl e
        · refine .inr ⟨t, ?_⟩
          rintro (w | w)
          · refine n (.inl fun z hz hh => ?_)
            rcases (s z).mp hz with hz | hz
            · exact w z hz hh
            · omega
          · exact e (by rw [w.1, w.2])
      · refine absurd (.inl fun z hz hh => ?_) n
        rcases (s z).mp hz with hz | hz
        · have := h.bd z hz; omega
        · omega
theorem flip {S : Int → Prop} : ∀ {T : Tr} {lo hi a b : Int}, TOk S lo hi T → tie lo hi T a b → ¬ (a = lo ∧ b = hi) → ¬ (∀ z, S z → ¬ (a < z ∧ z < b)) →
    ∃ T' m p, TOk S lo hi T' ∧ a < m ∧ m < b ∧ tie lo hi T a m ∧ tie lo hi T m b ∧
      ((p < a ∧ tie lo hi T p a ∧ tie lo hi T p b ∧ ∀ x y, tie lo hi T' x y ↔ (tie lo hi T x y ∧ ¬ (x = a ∧ y = b)) ∨ (x = p ∧ y = m)) ∨
       (b < p ∧ tie lo hi T a p ∧ tie lo hi T b p ∧ ∀ x y, tie lo hi T' x y ↔ (tie lo hi T x y ∧ ¬ (x = a ∧ y = b)) ∨ (x = m ∧ y = p)))
  | .lf, lo, hi, a, b, h, t, n, _ => absurd t n
  | .nd m0 l r, lo, hi, a, b, ⟨sm, k1, k2⟩, t, n, na => by
    have q1 := k1.lt
    have q2 := k2.lt
    rcases t with t | t | t
    · exact absurd t n
    · have ti := tie_in k1 t
      by_cases e : a = lo ∧ b = m0
      · obtain ⟨e1, e2⟩ := e
        subst e1; subst e2
        match l, k1 with
        | .lf, k1 => exact absurd k1.2 na
        | .nd m1 l1 l2, ⟨sm1, j1, j2⟩ =>
          have r1 := j1.lt
          have r2 := j2.lt
          refine ⟨.nd m1 l1 (.nd b l2 r), m1, hi, ⟨sm1, j1, sm, j2, k2⟩, r1, r2, .inr (.inl (.inr (.inl tie_root))), .inr (.inl (.inr (.inr tie_root))), .inr ⟨q2, .inl ⟨rfl, rfl⟩, .inr (.inr tie_root), fun x y => ?_⟩⟩
          constructor
          · rintro (w | w | w | w | w)
            · exact .inl ⟨.inl w, by omega⟩
            · have := tie_in j1 w; exact .inl ⟨.inr (.inl (.inr (.inl w))), by omega⟩
            · exact .inr w
            · have := tie_in j2 w; exact .inl ⟨.inr (.inl (.inr (.inr w))), by omega⟩
            · have := tie_in k2 w; exact .inl ⟨.inr (.inr w), by omega⟩
          · rintro (⟨w | (w | w | w) | w, g⟩ | w)
            · exact .inl w
            · exact absurd w g
            · exact .inr (.inl w)
            · exact .inr (.inr (.inr (.inl w)))
            · exact .inr (.inr (.inr (.inr w)))
            · exact .inr (.inr (.inl w))
      · obtain ⟨T', m, p, hT', g1, g2, g3, g4, g5⟩ := flip k1 t e na
        refine ⟨.nd m0 T' r, m, p, ⟨sm, hT', k2⟩, g1, g2, .inr (.inl g3), .inr (.inl g4), ?_⟩
        rcases g5 with ⟨g5, g6, g7, g8⟩ | ⟨g5, g6, g7, g8⟩
        · refine .inl ⟨g5, .inr (.inl g6), .inr (.inl g7), fun x y => ?_⟩
          show (_ ∨ tie lo m0 T' x y ∨ _) ↔ _
          rw [g8 x y]
          constructor
          · rintro (w | (w | w) | w)
            · exact .inl ⟨.inl w, by omega⟩
            · exact .inl ⟨.inr (.inl w.1), w.2⟩
            · exact .inr w
            · have := tie_in k2 w; exact .inl ⟨.inr (.inr w), by omega⟩
          · rintro (⟨w | w | w, g⟩ | w)
            · exact .inl w
            · exact .inr (.inl (.inl ⟨w, g⟩))
            · exact .inr (.inr w)
            · exact .inr (.inl (.inr w))
        · refine .inr ⟨g5, .inr (.inl g6), .inr (.inl g7), fun x y => ?_⟩
          show (_ ∨ tie lo m0 T' x y ∨ _) ↔ _
          rw [g8 x y]
          constructor
          · rintro (w | (w | w) | w)
            · exact .inl ⟨.inl w, by omega⟩
            · exact .inl ⟨.inr (.inl w.1), w.2⟩
            · exact .inr w
            · have := tie_in k2 w; exact .inl ⟨.inr (.inr w), by omega⟩
          · rintro (⟨w | w | w, g⟩ | w)
            · exact .inl w
            · exact .inr (.inl (.inl ⟨w, g⟩))
            · exact .inr (.inr w)
            · exact .inr (.inl (.inr w))
    · have ti := tie_in k2 t
      by_cases e : a = m0 ∧ b = hi
      · obtain ⟨e1, e2⟩ := e
        subst e1; subst e2
        match r, k2 with
        | .lf, k2 => exact absurd k2.2 na
        | .nd m1 r1 r2, ⟨sm1, j1, j2⟩ =>
          have h1 := j1.lt
          have h2 := j2.lt
          refine ⟨.nd m1 (.nd a l r1) r2, m1, lo, ⟨sm1, ⟨sm, k1, j1⟩, j2⟩, h1, h2, .inr (.inr (.inr (.inl tie_root))), .inr (.inr (.inr (.inr tie_root))), .inl ⟨q1, .inr (.inl tie_root), .inl ⟨rfl, rfl⟩, fun x y => ?_⟩⟩
          constructor
          · rintro (w | (w | w | w) | w)
            · exact .inl ⟨.inl w, by omega⟩
            · exact .inr w
            · have := tie_in k1 w; exact .inl ⟨.inr (.inl w), by omega⟩
            · have := tie_in j1 w; exact .inl ⟨.inr (.inr (.inr (.inl w))), by omega⟩
            · have := tie_in j2 w; exact .inl ⟨.inr (.inr (.inr (.inr w))), by omega⟩
          · rintro (⟨w | w | (w | w | w), g⟩ | w)
            · exact .inl w
            · exact .inr (.inl (.inr (.inl w)))
            · exact absurd w g
            · exact .inr (.inl (.inr (.inr w)))
            · exact .inr (.inr w)
            · exact .inr (.inl (.inl w))
      · obtain ⟨T', m, p, hT', g1, g2, g3, g4, g5⟩ := flip k2 t e na
        refine ⟨.nd m0 l T', m, p, ⟨sm, k1, hT'⟩, g1, g2, .inr (.inr g3), .inr (.inr g4), ?_⟩
        rcases g5 with ⟨g5, g6, g7, g8⟩ | ⟨g5, g6, g7, g8⟩
        · refine .inl ⟨g5, .inr (.inr g6), .inr (.inr g7), fun x y => ?_⟩
          show (_ ∨ _ ∨ tie m0 hi T' x y) ↔ _
          rw [g8 x y]
          constructor
          · rintro (w | w | (w | w))
            · exact .inl ⟨.inl w, by omega⟩
            · have := tie_in k1 w; exact .inl ⟨.inr (.inl w), by omega⟩
            · exact .inl ⟨.inr (.inr w.1), w.2⟩
            · exact .inr w
          · rintro (⟨w | w | w, g⟩ | w)
            · exact .inl w
            · exact .inr (.inl w)
            · exact .inr (.inr (.inl ⟨w, g⟩))
            · exact .inr (.inr (.inr w))
        · refine .inr ⟨g5, .inr (.inr g6), .inr (.inr g7), fun x y => ?_⟩
          show (_ ∨ _ ∨ tie m0 hi T' x y) ↔ _
          rw [g8 x y]
          constructor
          · rintro (w | w | (w | w))
            · exact .inl ⟨.inl w, by omega⟩
            · have := tie_in k1 w; exact .inl ⟨.inr (.inl w), by omega⟩
            · exact .inl ⟨.inr (.inr w.1), w.2⟩
            · exact .inr w
          · rintro (⟨w | w | w, g⟩ | w)
            · exact .inl w
            · exact .inr (.inl w)
            · exact .inr (.inr (.inl ⟨w, g⟩))
            · exact .inr (.inr (.inr w))

/-! ### ears taken off, row by row -/
abbrev pr (a b : Int) : Int × Int := (min a b, max a b)
theorem sorted_lt {L : List Int} (h : L.Pairwise (· < ·)) {i j : Nat} {x y : Int} (hi : L[i]? = some x) (hj : L[j]? = some y) (hij : i < j) : x < y := by
  obtain ⟨h1, e1⟩ := List.getElem?_eq_some_iff.mp hi
  obtain ⟨h2, e2⟩ := List.getElem?_eq_some_iff.mp hj
  have := List.pairwise_iff_getElem.mp h i j h1 h2 hij
  rw [e1, e2] at this
  exact this
def CutL (L : List Int) (R : List (Int × Int)) : Prop := ∃ lo hi, L.head? = some lo ∧ L.getLast? = some hi ∧ Cut (· ∈ L) lo hi R
theorem sorted_split {A B : List Int} {v : Int} (h : (A ++ v :: B).Pairwise (· < ·)) : (∀ z ∈ A, z < v) ∧ (∀ z ∈ B, v < z) ∧ A.Pairwise (· < ·) ∧ B.Pairwise (· < ·) ∧ (∀ z ∈ A, ∀ y ∈ B, z < y) := by
  rw [List.pairwise_append, List.pairwise_cons] at h
  exact ⟨fun z hz => h.2.2 z hz v (List.mem_cons_self ..), h.2.1.1, h.1, h.2.1.2, fun z hz y hy => h.2.2 z hz y (List.mem_cons_of_mem _ hy)⟩
theorem mem_gap {A B : List Int} {v : Int} : ∀ z, z ∈ A ++ v :: B ↔ z ∈ A ++ B ∨ z = v := by
  intro z
  simp only [List.mem_append, List.mem_cons]
  constructor
  · rintro (h | h | h)
    · exact .inl (.inl h)
    · exact .inr h
    · exact .inl (.inr h)
  · rintro ((h | h) | h)
    · exact .inl h
    · exact .inr (.inr h)
    · exact .inr (.inl h)
theorem last_app {l m : List Int} (h : m ≠ []) : (l ++ m).getLast? = m.getLast? := by
  rw [List.getLast?_append]
  cases e : m.getLast? with
  | none => exact absurd (List.getLast?_eq_none_iff.mp e) h
  | some x => rfl
/-- the post at a place is left out: its neighbours get a rope -/
theorem ear_step {L : List Int} {k : Nat} {v p q : Int} {R : List (Int × Int)} (hL : L.Pairwise (· < ·)) (h4 : 4 ≤ L.length) (hv : L[k]? = some v)
    (hp : (if k = 0 then L.getLast? else L[k - 1]?) = some p) (hq : L[(k + 1) % L.length]? = some q) (h : CutL (L.take k ++ L.drop (k + 1)) R) : CutL L (pr p q :: R) := by
  obtain ⟨lo, hi, hlo, hhi, hc⟩ := h
  obtain ⟨hk, ev⟩ := List.getElem?_eq_some_iff.mp hv
  have eL : L = L.take k ++ v :: L.drop (k + 1) := by
    rw [← ev, ← List.drop_eq_getElem_cons hk, List.take_append_drop]
  have hs := hL
  rw [eL] at hs
  obtain ⟨s1, s2, s3, s4, s5⟩ := sorted_split hs
  have lA : (L.take k).length = k := by rw [List.length_take]; omega
  have lB : (L.drop (k + 1)).length = L.length - (k + 1) := List.length_drop
  have hpq := hp
  generalize eA : L.take k = A at *
  generalize eB : L.drop (k + 1) = B at *
  have sm : ∀ z, z ∈ L ↔ z ∈ A ++ B ∨ z = v := by rw [eL]; exact mem_gap
  have nv : ¬ v ∈ A ++ B := fun hm => by
    rcases List.mem_append.mp hm with hm | hm
    · exact absurd (s1 v hm) (Int.lt_irrefl _)
    · exact absurd (s2 v hm) (Int.lt_irrefl _)
  by_cases k0 : k = 0
  · -- the first
    subst k0
    have A0 : A = [] := List.length_eq_zero_iff.mp lA
    subst A0
    rw [List.nil_append] at *
    rw [Nat.mod_eq_of_lt (by omega)] at hq
    match B, lB with
    | [], lB => rw [List.length_nil] at lB; omega
    | [_], lB => rw [List.length_singleton] at lB; omega
    | [_, _], lB => simp only [List.length_cons, List.length_nil] at lB; omega
    | b0 :: b1 :: b2 :: B', lB =>
      rw [eL] at hq
      obtain rfl : b0 = q := by simpa using hq
      obtain rfl : b0 = lo := by simpa using hlo
      have e1 : L.getLast? = some hi := by
        rw [eL, List.getLast?_cons_cons]
        exact hhi
      rw [if_pos rfl, e1] at hp
      obtain rfl := Option.some.inj hp
      have hlt : b0 < b1 := (List.pairwise_cons.mp s4).1 b1 (by simp)
      have hb1 : b1 < hi := by
        rw [List.getLast?_cons_cons, List.getLast?_cons_cons] at hhi
        have hm : hi ∈ b2 :: B' := List.mem_of_getLast? hhi
        exact (List.pairwise_cons.mp (List.pairwise_cons.mp s4).2).1 hi hm
      have epr : pr hi b0 = (b0, hi) := by
        show (min hi b0, max hi b0) = _
        rw [Int.min_eq_right (by omega), Int.max_eq_left (by omega)]
      rw [epr]
      refine ⟨v, hi, by rw [eL]; rfl, e1, ear_first hc sm (s2 b0 (by simp)) (x := b1) (by simp) ⟨hlt, hb1⟩⟩
  · rw [if_neg k0] at hp
    have hkA : A ≠ [] := fun e => by rw [e] at lA; exact k0 lA.symm
    obtain ⟨A', a, eA'⟩ : ∃ A' a, A = A' ++ [a] := ⟨A.dropLast, A.getLast hkA, (List.dropLast_concat_getLast hkA).symm⟩
    subst eA'
    rw [List.length_append, List.length_singleton] at lA
    have epa : a = p := by
      rw [eL, List.append_assoc] at hp
      rw [List.getElem?_append_right (by omega)] at hp
      rw [show k - 1 - A'.length = 0 by omega] at hp
      exact Option.some.inj hp
    subst epa
    have hav : a < v := s1 a (by simp)
    match B, lB with
    | [], lB =>
      -- the last
      rw [List.length_nil] at lB
      have hkl : k + 1 = L.length := by omega
      rw [hkl, Nat.mod_self] at hq
      match A', lA with
      | [], lA => rw [List.length_nil] at lA; omega
      | a0 :: A'', lA =>
        rw [eL] at hq
        obtain rfl : a0 = q := by simpa using hq
        obtain rfl : a0 = lo := by simpa using hlo
        obtain rfl : a = hi := by
          rw [List.append_nil, List.getLast?_concat] at hhi
          exact Option.some.inj hhi
        match A'', lA with
        | [], lA => rw [List.length_singleton] at lA; omega
        | a1 :: A3, lA =>
          have h1 : a0 < a1 := (List.pairwise_cons.mp s3).1 a1 (by simp)
          have h2 : a1 < a := by
            have := (List.pairwise_cons.mp (List.pairwise_cons.mp s3).2).1 a (by simp)
            exact this
          have epr : pr a a0 = (a0, a) := by
            show (min a a0, max a a0) = _
            rw [Int.min_eq_right (by omega), Int.max_eq_left (by omega)]
          rw [epr]
          refine ⟨a0, v, by rw [eL]; rfl, by rw [eL, List.getLast?_concat], ear_last hc sm hav (x := a1) (by simp) ⟨h1, h2⟩⟩
    | b0 :: B', lB =>
      rw [List.length_cons] at lB
      rw [Nat.mod_eq_of_lt (by omega)] at hq
      have ebq : b0 = q := by
        rw [eL] at hq
        rw [List.getElem?_append_right (by rw [List.length_append, List.length_singleton]; omega), List.length_append, List.length_singleton] at hq
        rw [show k + 1 - (A'.length + 1) = 1 by omega] at hq
        exact Option.some.inj hq
      subst ebq
      have hvb : v < b0 := s2 b0 (by simp)
      have epr : pr a b0 = (a, b0) := by
        show (min a b0, max a b0) = _
        rw [Int.min_eq_left (by omega), Int.max_eq_right (by omega)]
      rw [epr]
      refine ⟨lo, hi, ?_, ?_, ear_mid hc sm nv (by simp) (by simp) hav hvb (fun z hz => ?_) ?_⟩
      · rw [eL]
        cases A' with
        | nil => simpa using hlo
        | cons x A' => simpa using hlo
      · rw [eL]
        rw [last_app (by simp)] at hhi ⊢
        rw [List.getLast?_cons_cons]
        exact hhi
      · rcases List.mem_append.mp hz with hz | hz
        · rcases List.mem_append.mp hz with hz | hz
          · have := (List.pairwise_append.mp s3).2.2 z hz a (by simp); omega
          · have := List.mem_singleton.mp hz; omega
        · rcases List.mem_cons.mp hz with hz | hz
          · omega
          · have := (List.pairwise_cons.mp s4).1 z hz; omega
      · rintro ⟨e1, e2⟩
        subst e1; subst e2
        have z1 : A' = [] := by
          cases A' with
          | nil => rfl
          | cons x A' =>
            obtain rfl : x = a := by simpa using hlo
            exact absurd ((List.pairwise_cons.mp s3).1 x (by simp)) (Int.lt_irrefl _)
        have z2 : B' = [] := by
          cases B' with
          | nil => rfl
          | cons x B' =>
            rw [last_app (by simp), List.getLast?_cons_cons] at hhi
            have hm : b0 ∈ x :: B' := List.mem_of_getLast? hhi
            exact absurd ((List.pairwise_cons.mp s4).1 b0 hm) (Int.lt_irrefl _)
        subst z1; subst z2
        simp only [List.length_nil] at lA lB
        omega
theorem cut3 {a b c : Int} (h1 : a < b) (h2 : b < c) : CutL [a, b, c] [] := by
  refine ⟨a, c, rfl, rfl, by simp, by simp, fun z hz => ?_, List.nodup_nil, .nd b .lf .lf, ⟨by simp, ⟨h1, fun z hz hh => ?_⟩, h2, fun z hz hh => ?_⟩, fun x y => ?_⟩
  · simp only [List.mem_cons, List.not_mem_nil, or_false] at hz
    omega
  · simp only [List.mem_cons, List.not_mem_nil, or_false] at hz
    omega
  · simp only [List.mem_cons, List.not_mem_nil, or_false] at hz
    omega
  · constructor
    · intro h; cases h
    · rintro ⟨w | w | w, n⟩
      · exact absurd (.inr w) n
      · obtain ⟨e1, e2⟩ := w
        refine absurd (.inl fun z hz hh => ?_) n
        simp only [List.mem_cons, List.not_mem_nil, or_false] at hz
        omega
      · obtain ⟨e1, e2⟩ := w
        refine absurd (.inl fun z hz hh => ?_) n
        simp only [List.mem_cons, List.not_mem_nil, or_false] at hz
        omega

/-! ### cuttings of n posts -/
def inR (n : Int) : Int → Prop := fun z => 0 ≤ z ∧ z < n
def rng (n : Int) : List Int := (List.range n.toNat).map (fun k : Nat => (k : Int))
def sidesL (n : Int) : List (Int × Int) := (rng (n - 1)).map (fun k => (k, k + 1)) ++ [(0, n - 1)]
theorem mem_rng {n z : Int} : z ∈ rng n ↔ 0 ≤ z ∧ z < n := by
  unfold rng
  rw [List.mem_map]
  constructor
  · rintro ⟨k, hk, rfl⟩
    have := List.mem_range.mp hk
    omega
  · rintro ⟨h1, h2⟩
    exact ⟨z.toNat, List.mem_range.mpr (by omega), by omega⟩
theorem rng_sorted (n : Int) : (rng n).Pairwise (· < ·) := by
  unfold rng
  rw [List.pairwise_map]
  exact (List.pairwise_lt_range).imp fun h => by omega
theorem rng_len (n : Int) : (rng n).length = n.toNat := by
  unfold rng; rw [List.length_map, List.length_range]
structure IsCut (n : Int) (R : List (Int × Int)) : Prop where
  three : 3 ≤ n
  nd : R.Nodup
  ex : ∃ T, TOk (inR n) 0 (n - 1) T ∧ ∀ a b, (a, b) ∈ R ↔ tie 0 (n - 1) T a b ∧ a + 2 ≤ b ∧ ¬ (a = 0 ∧ b = n - 1)
theorem isCut_of {n : Int} {R : List (Int × Int)} (h3 : 3 ≤ n) (h : CutL (rng n) R) : IsCut n R := by
  obtain ⟨lo, hi, hlo, hhi, hc⟩ := h
  have m1 := mem_rng.mp hc.slo
  have m2 := mem_rng.mp hc.shi
  have z1 := hc.bd 0 (mem_rng.mpr (by omega))
  have z2 := hc.bd (n - 1) (mem_rng.mpr (by omega))
  have e1 : lo = 0 := by omega
  have e2 : hi = n - 1 := by omega
  subst e1; subst e2
  obtain ⟨T, hT, hR⟩ := hc.ex
  have hT' : TOk (inR n) 0 (n - 1) T := hT.more (fun z hz => mem_rng.mp hz) fun z hz _ _ => mem_rng.mpr hz
  refine ⟨h3, hc.nd, T, hT', fun a b => (hR a b).trans ⟨?_, ?_⟩⟩
  · rintro ⟨t, n1⟩
    have ti := tie_in hT t
    refine ⟨t, ?_, fun e => n1 (.inr e)⟩
    rcases Int.lt_or_le (a + 1) b with h | h
    · omega
    · exact absurd (.inl fun z _ hh => by omega) n1
  · rintro ⟨t, g1, g2⟩
    have ti := tie_in hT t
    refine ⟨t, ?_⟩
    rintro (w | w)
    · exact w (a + 1) (mem_rng.mpr (by omega)) (by omega)
    · exact g2 w
theorem ties_iff {n : Int} {R : List (Int × Int)} {T : Tr} (h3 : 3 ≤ n) (hT : TOk (inR n) 0 (n - 1) T) (hR : ∀ a b, (a, b) ∈ R ↔ tie 0 (n - 1) T a b ∧ a + 2 ≤ b ∧ ¬ (a = 0 ∧ b = n - 1)) :
    ∀ a b, (a, b) ∈ sidesL n ++ R ↔ tie 0 (n - 1) T a b := by
  intro a b
  unfold sidesL
  rw [List.mem_append, List.mem_append, List.mem_singleton, List.mem_map, hR a b]
  constructor
  · rintro ((⟨k, hk, e⟩ | e) | h)
    · obtain ⟨rfl, rfl⟩ := Prod.mk.inj e
      have := mem_rng.mp hk
      exact tie_adj hT ⟨by omega, by omega⟩ ⟨by omega, by omega⟩ ⟨by omega, by omega⟩ ⟨by omega, by omega⟩ (by omega) (fun z _ hh => by omega) (by omega) (by omega)
    · obtain ⟨rfl, rfl⟩ := Prod.mk.inj e
      exact tie_root
    · exact h.1
  · intro t
    have ti := tie_in hT t
    by_cases h1 : a + 2 ≤ b
    · by_cases h2 : a = 0 ∧ b = n - 1
      · exact .inl (.inr (by rw [h2.1, h2.2]))
      · exact .inr ⟨t, h1, h2⟩
    · exact .inl (.inl ⟨a, mem_rng.mpr (by omega), by rw [show b = a + 1 by omega]⟩)
/-- x makes a plot with a and b -/
def Bes (lo hi : Int) (T : Tr) (a b x : Int) : Prop := (a < x ∧ x < b ∧ tie lo hi T a x ∧ tie lo hi T x b) ∨ (x < a ∧ tie lo hi T x a ∧ tie lo hi T x b) ∨ (b < x ∧ tie lo hi T a x ∧ tie lo hi T b x)
theorem bes_iff {S : Int → Prop} {lo hi a b x : Int} {T : Tr} (hT : TOk S lo hi T) (hab : a < b) : Bes lo hi T a b x ↔ tie lo hi T (min a x) (max a x) ∧ tie lo hi T (min b x) (max b x) := by
  constructor
  · rintro (⟨h1, h2, h3, h4⟩ | ⟨h1, h2, h3⟩ | ⟨h1, h2, h3⟩)
    · rw [Int.min_eq_left (by omega), Int.max_eq_right (by omega), Int.min_eq_right (by omega), Int.max_eq_left (by omega)]
      exact ⟨h3, h4⟩
    · rw [Int.min_eq_right (by omega), Int.max_eq_left (by omega), Int.min_eq_right (by omega), Int.max_eq_left (by omega)]
      exact ⟨h2, h3⟩
    · rw [Int.min_eq_left (by omega), Int.max_eq_right (by omega), Int.min_eq_left (by omega), Int.max_eq_right (by omega)]
      exact ⟨h2, h3⟩
  · rintro ⟨t, u⟩
    have t1 := tie_in hT t
    have u1 := tie_in hT u
    rcases Int.lt_trichotomy x a with h | h | h
    · rw [Int.min_eq_right (by omega), Int.max_eq_left (by omega)] at t u
      exact .inr (.inl ⟨h, t, u⟩)
    · omega
    · rcases Int.lt_trichotomy x b with g | g | g
      · rw [Int.min_eq_left (by omega), Int.max_eq_right (by omega)] at t
        rw [Int.min_eq_right (by omega), Int.max_eq_left (by omega)] at u
        exact .inl ⟨h, g, t, u⟩
      · omega
      · rw [Int.min_eq_left (by omega), Int.max_eq_right (by omega)] at t u
        exact .inr (.inr ⟨g, t, u⟩)
theorem bes_in {S : Int → Prop} {lo hi a b x y : Int} {T : Tr} (hT : TOk S lo hi T) (hab : a < b) (hx : Bes lo hi T a b x) (hy : Bes lo hi T a b y) (h1 : a < x) (h2 : x < b) (h3 : a < y) (h4 : y < b) : x = y := by
  rcases hx with ⟨_, _, x1, x2⟩ | ⟨_, x1, x2⟩ | ⟨_, x1, x2⟩ <;> rcases hy with ⟨_, _, y1, y2⟩ | ⟨_, y1, y2⟩ | ⟨_, y1, y2⟩ <;> first | omega | skip
  rcases Int.lt_trichotomy x y with h | h | h
  · exact (nocross hT y1 x2 h1 h h4).elim
  · exact h
  · exact (nocross hT x1 y2 h3 h h2).elim
theorem bes_out {S : Int → Prop} {lo hi a b x y : Int} {T : Tr} (hT : TOk S lo hi T) (hab : a < b) (hx : Bes lo hi T a b x) (hy : Bes lo hi T a b y) (h1 : ¬ (a < x ∧ x < b)) (h2 : ¬ (a < y ∧ y < b)) : x = y := by
  rcases hx with ⟨x0, x00, _, _⟩ | ⟨x0, x1, x2⟩ | ⟨x0, x1, x2⟩
  · exact absurd ⟨x0, x00⟩ h1
  · rcases hy with ⟨y0, y00, _, _⟩ | ⟨y0, y1, y2⟩ | ⟨y0, y1, y2⟩
    · exact absurd ⟨y0, y00⟩ h2
    · rcases Int.lt_trichotomy x y with h | h | h
      · exact (nocross hT x1 y2 h y0 hab).elim
      · exact h
      · exact (nocross hT y1 x2 h x0 hab).elim
    · exact (nocross hT x2 y1 x0 hab y0).elim
  · rcases hy with ⟨y0, y00, _, _⟩ | ⟨y0, y1, y2⟩ | ⟨y0, y1, y2⟩
    · exact absurd ⟨y0, y00⟩ h2
    · exact (nocross hT y2 x1 y0 hab x0).elim
    · rcases Int.lt_trichotomy x y with h | h | h
      · exact (nocross hT x1 y2 hab x0 h).elim
      · exact h
      · exact (nocross hT y1 x2 hab y0 h).elim
theorem sorted_ext {l m : List Int} (h1 : l.Pairwise (· < ·)) (h2 : m.Pairwise (· < ·)) (h : ∀ x, x ∈ l ↔ x ∈ m) : l = m := by
  have n1 : l.Nodup := h1.imp fun h => Int.ne_of_lt h
  have n2 : m.Nodup := h2.imp fun h => Int.ne_of_lt h
  exact List.Perm.eq_of_pairwise (le := (· < ·)) (fun a b _ _ x y => absurd (Int.lt_trans x y) (Int.lt_irrefl _)) h1 h2 ((List.perm_ext_iff_of_nodup n1 n2).mpr h)
def besL (t : List (Int × Int)) (n a b : Int) : List Int := (rng n).filter fun p => decide (pr a p ∈ t) && decide (pr b p ∈ t)
theorem besL_comm (t : List (Int × Int)) (n a b : Int) : besL t n a b = besL t n b a := by
  unfold besL
  refine List.filter_congr fun x _ => ?_
  rw [Bool.and_comm]
theorem besL_pr (t : List (Int × Int)) (n a b : Int) : besL t n a b = besL t n (pr a b).1 (pr a b).2 := by
  show _ = besL t n (min a b) (max a b)
  rcases Int.le_total a b with h | h
  · rw [Int.min_eq_left h, Int.max_eq_right h]
  · rw [Int.min_eq_right h, Int.max_eq_left h, besL_comm]
theorem besL_mem {n : Int} {t : List (Int × Int)} {T : Tr} (hT : TOk (inR n) 0 (n - 1) T) (ht : ∀ a b, (a, b) ∈ t ↔ tie 0 (n - 1) T a b) {a b : Int} (hab : a < b) : ∀ x, x ∈ besL t n a b ↔ Bes 0 (n - 1) T a b x := by
  intro x
  rw [bes_iff hT hab]
  unfold besL
  rw [List.mem_filter, Bool.and_eq_true, decide_eq_true_eq, decide_eq_true_eq, ht, ht, mem_rng]
  constructor
  · exact fun h => h.2
  · intro h
    have := tie_in hT h.1
    have := tie_in hT h.2
    refine ⟨?_, h⟩
    omega
theorem besL_sorted (t : List (Int × Int)) (n a b : Int) : (besL t n a b).Pairwise (· < ·) := (rng_sorted n).filter _
/-- beside a side stands one post, beside a rope two -/
theorem beside_side {n : Int} {t : List (Int × Int)} {T : Tr} (h3 : 3 ≤ n) (hT : TOk (inR n) 0 (n - 1) T) (ht : ∀ a b, (a, b) ∈ t ↔ tie 0 (n - 1) T a b) {a b : Int} (h : tie 0 (n - 1) T a b) (hs : ¬ (a + 2 ≤ b ∧ ¬ (a = 0 ∧ b = n - 1))) :
    ∃ m, besL t n a b = [m] := by
  have ti := tie_in hT h
  have hm := besL_mem hT ht ti.2.1
  by_cases h1 : a + 2 ≤ b
  · have h2 : a = 0 ∧ b = n - 1 := Decidable.by_contra fun q => hs ⟨h1, q⟩
    rcases inner hT h with q | ⟨m, q1, q2, q3, q4⟩
    · exact absurd (q (a + 1) ⟨by omega, by omega⟩) (by omega)
    · have hb : Bes 0 (n - 1) T a b m := .inl ⟨q1, q2, q3, q4⟩
      refine ⟨m, sorted_ext (besL_sorted ..) (List.pairwise_singleton ..) fun x => ?_⟩
      rw [hm, List.mem_singleton]
      constructor
      · intro g
        have : a < x ∧ x < b := by
          rcases g with ⟨g1, g2, _, _⟩ | ⟨g1, g2, g3⟩ | ⟨g1, g2, g3⟩
          · exact ⟨g1, g2⟩
          · have := tie_in hT g2; omega
          · have := tie_in hT g2; omega
        exact bes_in hT ti.2.1 g hb this.1 this.2 q1 q2
      · rintro rfl
        exact hb
  · obtain ⟨p, hp⟩ := outer hT h (by omega)
    have hb : Bes 0 (n - 1) T a b p := by
      rcases hp with hp | hp
      · exact .inr (.inl hp)
      · exact .inr (.inr hp)
    refine ⟨p, sorted_ext (besL_sorted ..) (List.pairwise_singleton ..) fun x => ?_⟩
    rw [hm, List.mem_singleton]
    constructor
    · intro g
      exact bes_out hT ti.2.1 g hb (by omega) (by omega)
    · rintro rfl
      exact hb
theorem beside_rope {n : Int} {t : List (Int × Int)} {T : Tr} (hT : TOk (inR n) 0 (n - 1) T) (ht : ∀ a b, (a, b) ∈ t ↔ tie 0 (n - 1) T a b) {a b : Int} (h : tie 0 (n - 1) T a b) (h1 : a + 2 ≤ b) (h2 : ¬ (a = 0 ∧ b = n - 1)) :
    ∃ m p T', a < m ∧ m < b ∧ TOk (inR n) 0 (n - 1) T' ∧ ((p < a ∧ 0 ≤ p ∧ besL t n a b = [p, m] ∧ ∀ x y, tie 0 (n - 1) T' x y ↔ (tie 0 (n - 1) T x y ∧ ¬ (x = a ∧ y = b)) ∨ (x = p ∧ y = m)) ∨
      (b < p ∧ p < n ∧ besL t n a b = [m, p] ∧ ∀ x y, tie 0 (n - 1) T' x y ↔ (tie 0 (n - 1) T x y ∧ ¬ (x = a ∧ y = b)) ∨ (x = m ∧ y = p))) := by
  have ti := tie_in hT h
  have hm := besL_mem hT ht ti.2.1
  obtain ⟨T', m, p, hT', g1, g2, g3, g4, g5⟩ := flip hT h h2 (fun q => q (a + 1) ⟨by omega, by omega⟩ (by omega))
  refine ⟨m, p, T', g1, g2, hT', ?_⟩
  have bm : Bes 0 (n - 1) T a b m := .inl ⟨g1, g2, g3, g4⟩
  rcases g5 with ⟨q1, q2, q3, q4⟩ | ⟨q1, q2, q3, q4⟩
  · have bp : Bes 0 (n - 1) T a b p := .inr (.inl ⟨q1, q2, q3⟩)
    refine .inl ⟨q1, (tie_in hT q2).1, sorted_ext (besL_sorted ..) (by simp; omega) fun x => ?_, q4⟩
    rw [hm]
    simp only [List.mem_cons, List.not_mem_nil, or_false]
    constructor
    · intro g
      by_cases hx : a < x ∧ x < b
      · exact .inr (bes_in hT ti.2.1 g bm hx.1 hx.2 g1 g2)
      · exact .inl (bes_out hT ti.2.1 g bp hx (by omega))
    · rintro (rfl | rfl)
      · exact bp
      · exact bm
  · have bp : Bes 0 (n - 1) T a b p := .inr (.inr ⟨q1, q2, q3⟩)
    have tq := tie_in hT q2
    refine .inr ⟨q1, by omega, sorted_ext (besL_sorted ..) (by simp; omega) fun x => ?_, q4⟩
    rw [hm]
    simp only [List.mem_cons, List.not_mem_nil, or_false]
    constructor
    · intro g
      by_cases hx : a < x ∧ x < b
      · exact .inl (bes_in hT ti.2.1 g bm hx.1 hx.2 g1 g2)
      · exact .inr (bes_out hT ti.2.1 g bp hx (by omega))
    · rintro (rfl | rfl)
      · exact bm
      · exact bp
theorem beside_cnt {n : Int} {R t : List (Int × Int)} (hc : IsCut n R) (ht : ∀ p, p ∈ t ↔ p ∈ sidesL n ++ R) {a b : Int} (h : pr a b ∈ t) : (besL t n a b).length = 1 + (if pr a b ∈ R then 1 else 0) := by
  obtain ⟨T, hT, hR⟩ := hc.ex
  have ht' : ∀ a b, (a, b) ∈ t ↔ tie 0 (n - 1) T a b := fun a b => (ht _).trans (ties_iff hc.three hT hR a b)
  rw [besL_pr]
  generalize e : pr a b = q at *
  obtain ⟨a', b'⟩ := q
  have h' := (ht' a' b').mp h
  show (besL t n a' b').length = _
  by_cases hr : a' + 2 ≤ b' ∧ ¬ (a' = 0 ∧ b' = n - 1)
  · rw [if_pos ((hR a' b').mpr ⟨h', hr⟩)]
    obtain ⟨m, p, T', _, _, _, g | g⟩ := beside_rope hT ht' h' hr.1 hr.2
    · rw [g.2.2.1]; rfl
    · rw [g.2.2.1]; rfl
  · rw [if_neg (fun q => hr ((hR a' b').mp q).2)]
    obtain ⟨m, e⟩ := beside_side hc.three hT ht' h' hr
    rw [e]; rfl
/-- turning a rope makes a cutting -/
theorem turn_cut {n : Int} {R t : List (Int × Int)} (hc : IsCut n R) (ht : ∀ p, p ∈ t ↔ p ∈ sidesL n ++ R) {a b : Int} (h : (a, b) ∈ R) :
    ∃ x y, besL t n a b = [x, y] ∧ 0 ≤ x ∧ x < y ∧ y < n ∧ (x, y) ∉ R ∧ ((x < a ∧ a < y ∧ y < b) ∨ (a < x ∧ x < b ∧ b < y)) ∧ ∀ R' : List (Int × Int), R'.Nodup → (∀ p, p ∈ R' ↔ (p ∈ R ∧ p ≠ (a, b)) ∨ p = (x, y)) → IsCut n R' := by
  obtain ⟨T, hT, hR⟩ := hc.ex
  have ht' : ∀ a b, (a, b) ∈ t ↔ tie 0 (n - 1) T a b := fun a b => (ht _).trans (ties_iff hc.three hT hR a b)
  obtain ⟨h1, h2, h3⟩ := (hR a b).mp h
  have ti := tie_in hT h1
  obtain ⟨m, p, T', g1, g2, hT', g | g⟩ := beside_rope hT ht' h1 h2 h3
  · obtain ⟨q1, q2, q3, q4⟩ := g
    refine ⟨p, m, q3, q2, by omega, by omega, fun hm => ?_, .inl ⟨q1, g1, g2⟩, fun R' hn hR' => ⟨hc.three, hn, T', hT', fun x y => ?_⟩⟩
    · exact nocross hT ((hR p m).mp hm).1 h1 q1 g1 g2
    · rw [hR', hR, q4]
      constructor
      · rintro (⟨⟨w1, w2⟩, w3⟩ | w)
        · exact ⟨.inl ⟨w1, fun e => w3 (by rw [e.1, e.2])⟩, w2⟩
        · obtain ⟨rfl, rfl⟩ := Prod.mk.inj w
          exact ⟨.inr ⟨rfl, rfl⟩, by omega, by omega⟩
      · rintro ⟨⟨w1, w2⟩ | ⟨e1, e2⟩, w3⟩
        · exact .inl ⟨⟨w1, w3⟩, fun e => w2 (Prod.mk.inj e)⟩
        · exact .inr (by rw [e1, e2])
  · obtain ⟨q1, q2, q3, q4⟩ := g
    refine ⟨m, p, q3, by omega, by omega, q2, fun hm => ?_, .inr ⟨g1, g2, q1⟩, fun R' hn hR' => ⟨hc.three, hn, T', hT', fun x y => ?_⟩⟩
    · exact nocross hT h1 ((hR m p).mp hm).1 g1 g2 q1
    · rw [hR', hR, q4]
      constructor
      · rintro (⟨⟨w1, w2⟩, w3⟩ | w)
        · exact ⟨.inl ⟨w1, fun e => w3 (by rw [e.1, e.2])⟩, w2⟩
        · obtain ⟨rfl, rfl⟩ := Prod.mk.inj w
          exact ⟨.inr ⟨rfl, rfl⟩, by omega, by omega⟩
      · rintro ⟨⟨w1, w2⟩ | ⟨e1, e2⟩, w3⟩
        · exact .inl ⟨⟨w1, w3⟩, fun e => w2 (Prod.mk.inj e)⟩
        · exact .inr (by rw [e1, e2])

/-! ### the ears one behind the other, and the posts set back behind them -/
abbrev Tri3 := Int × Int × Int
/-- y stands next behind x in the ring of L -/
def CN (L : List Int) (x y : Int) : Prop := (x < y ∧ ∀ z ∈ L, ¬ (x < z ∧ z < y)) ∨ (y < x ∧ ∀ z ∈ L, y ≤ z ∧ z ≤ x)
def Nb (L : List Int) (a b : Int) : Prop := a < b ∧ ((∀ z ∈ L, ¬ (a < z ∧ z < b)) ∨ ∀ z ∈ L, a ≤ z ∧ z ≤ b)
theorem CN.nb {L : List Int} {x y : Int} (h : CN L x y) : Nb L (pr x y).1 (pr x y).2 := by
  show Nb L (min x y) (max x y)
  rcases h with ⟨h1, h2⟩ | ⟨h1, h2⟩
  · rw [Int.min_eq_left (by omega), Int.max_eq_right (by omega)]
    exact ⟨h1, .inl h2⟩
  · rw [Int.min_eq_right (by omega), Int.max_eq_left (by omega)]
    exact ⟨h1, .inr h2⟩
theorem sorted_le {L : List Int} (h : L.Pairwise (· < ·)) {i j : Nat} {x y : Int} (hi : L[i]? = some x) (hj : L[j]? = some y) (hij : i ≤ j) : x ≤ y := by
  rcases Nat.lt_or_eq_of_le hij with e | e
  · exact Int.le_of_lt (sorted_lt h hi hj e)
  · subst e
    rw [hi] at hj
    exact Int.le_of_eq (Option.some.inj hj)
theorem cn_at {L : List Int} (h : L.Pairwise (· < ·)) {i : Nat} {x y : Int} (hi : L[i]? = some x) (hj : L[i + 1]? = some y) : CN L x y := by
  refine .inl ⟨sorted_lt h hi hj (by omega), fun z hz hh => ?_⟩
  obtain ⟨k, hk⟩ := List.getElem?_of_mem hz
  rcases Nat.lt_or_ge i k with e | e
  · have := sorted_le h hj hk e
    omega
  · have := sorted_le h hk hi e
    omega
theorem cn_round {L : List Int} (h : L.Pairwise (· < ·)) {x y : Int} (h2 : 2 ≤ L.length) (hi : L[L.length - 1]? = some x) (hj : L[0]? = some y) : CN L x y := by
  refine .inr ⟨sorted_lt h hj hi (by omega), fun z hz => ?_⟩
  obtain ⟨k, hk⟩ := List.getElem?_of_mem hz
  have hkl := (List.getElem?_eq_some_iff.mp hk).1
  exact ⟨sorted_le h hj hk (by omega), sorted_le h hk hi (by omega)⟩
theorem cn_prev {L : List Int} (h : L.Pairwise (· < ·)) (h2 : 2 ≤ L.length) {k : Nat} {v p : Int} (hv : L[k]? = some v) (hp : (if k = 0 then L.getLast? else L[k - 1]?) = some p) : CN L p v ∧ p ∈ L := by
  by_cases e : k = 0
  · subst e
    rw [if_pos rfl, List.getLast?_eq_getElem?] at hp
    exact ⟨cn_round h h2 hp hv, List.mem_of_getElem? hp⟩
  · rw [if_neg e] at hp
    have e2 : k = (k - 1) + 1 := by omega
    rw [e2] at hv
    exact ⟨cn_at h hp hv, List.mem_of_getElem? hp⟩
theorem cn_next {L : List Int} (h : L.Pairwise (· < ·)) (h2 : 2 ≤ L.length) {k : Nat} {v q : Int} (hv : L[k]? = some v) (hq : L[(k + 1) % L.length]? = some q) : CN L v q ∧ q ∈ L := by
  have hk := (List.getElem?_eq_some_iff.mp hv).1
  by_cases e : k + 1 = L.length
  · rw [e, Nat.mod_self] at hq
    have e2 : k = L.length - 1 := by omega
    rw [e2] at hv
    exact ⟨cn_round h h2 hv hq, List.mem_of_getElem? hq⟩
  · rw [Nat.mod_eq_of_lt (by omega)] at hq
    exact ⟨cn_at h hv hq, List.mem_of_getElem? hq⟩
inductive EarSeq : List Int → List Tri3 → List Int → Prop where
  | nil {L : List Int} : L.length = 3 → L.Pairwise (· < ·) → EarSeq L [] L
  | cons {L L' : List Int} {v p q : Int} {es : List Tri3} {F : List Int} : v ∈ L → p ∈ L → q ∈ L → CN L p v → CN L v q → (∀ z, z ∈ L' ↔ z ∈ L ∧ z ≠ v) → EarSeq L' es F → EarSeq L ((v, p, q) :: es) F
def TieAdj (t : List (Int × Int)) (L : List Int) : Prop := ∀ a b, a ∈ L → b ∈ L → Nb L a b → (a, b) ∈ t
theorem TieAdj.step {t : List (Int × Int)} {L L' : List Int} {v p q : Int} (h : TieAdj t L) (hp : p ∈ L) (hq : q ∈ L) (c1 : CN L p v) (c2 : CN L v q) (hm : ∀ z, z ∈ L' ↔ z ∈ L ∧ z ≠ v) (hr : pr p q ∈ t) : TieAdj t L' := by
  rintro a b ha hb ⟨ab, hn⟩
  have ha2 := (hm a).mp ha
  have hb2 := (hm b).mp hb
  have up : p ≠ v := by rcases c1 with ⟨c, _⟩ | ⟨c, _⟩ <;> omega
  have uq : q ≠ v := by rcases c2 with ⟨c, _⟩ | ⟨c, _⟩ <;> omega
  have hp2 := (hm p).mpr ⟨hp, up⟩
  have hq2 := (hm q).mpr ⟨hq, uq⟩
  have fin : (p = a ∧ q = b) ∨ (p = b ∧ q = a) → (a, b) ∈ t := by
    rintro (⟨e1, e2⟩ | ⟨e1, e2⟩)
    · subst e1; subst e2
      have e : pr p q = (p, q) := by
        show (min p q, max p q) = _
        rw [Int.min_eq_left (by omega), Int.max_eq_right (by omega)]
      rw [← e]; exact hr
    · subst e1; subst e2
      have e : pr p q = (q, p) := by
        show (min p q, max p q) = _
        rw [Int.min_eq_right (by omega), Int.max_eq_left (by omega)]
      rw [← e]; exact hr
  rcases hn with hn | hn
  · by_cases hv : a < v ∧ v < b
    · have n1 := hn p hp2
      have n2 := hn q hq2
      refine fin (.inl ⟨?_, ?_⟩)
      · rcases c1 with ⟨c, d⟩ | ⟨c, d⟩
        · have := d a ha2.1; omega
        · have := d a ha2.1; omega
      · rcases c2 with ⟨c, d⟩ | ⟨c, d⟩
        · have := d b hb2.1; omega
        · have := d b hb2.1; omega
    · refine h a b ha2.1 hb2.1 ⟨ab, .inl fun z hz hh => ?_⟩
      by_cases e : z = v
      · subst e; exact hv hh
      · exact hn z ((hm z).mpr ⟨hz, e⟩) hh
  · by_cases hv : a ≤ v ∧ v ≤ b
    · refine h a b ha2.1 hb2.1 ⟨ab, .inr fun z hz => ?_⟩
      by_cases e : z = v
      · subst e; exact hv
      · exact hn z ((hm z).mpr ⟨hz, e⟩)
    · have n1 := hn p hp2
      have n2 := hn q hq2
      refine fin (.inr ⟨?_, ?_⟩)
      · rcases c1 with ⟨c, d⟩ | ⟨c, d⟩
        · have := d a ha2.1; have := d b hb2.1; omega
        · have := d a ha2.1; have := d b hb2.1; omega
      · rcases c2 with ⟨c, d⟩ | ⟨c, d⟩
        · have := d a ha2.1; have := d b hb2.1; omega
        · have := d a ha2.1; have := d b hb2.1; omega
theorem EarSeq.mem {L F : List Int} {es : List Tri3} (h : EarSeq L es F) : ∀ z, z ∈ F ↔ z ∈ L ∧ z ∉ es.map (·.1) := by
  induction h with
  | nil => intro z; simp
  | cons hv hp hq c1 c2 hm _ ih =>
    intro z
    rw [ih z, hm z, List.map_cons, List.mem_cons, not_or]
    constructor
    · rintro ⟨⟨a, b⟩, c⟩; exact ⟨a, b, c⟩
    · rintro ⟨a, b, c⟩; exact ⟨⟨a, b⟩, c⟩
theorem EarSeq.fin {L F : List Int} {es : List Tri3} (h : EarSeq L es F) : F.length = 3 ∧ F.Pairwise (· < ·) := by
  induction h with
  | nil a b => exact ⟨a, b⟩
  | cons _ _ _ _ _ _ _ ih => exact ih
theorem EarSeq.adj {t : List (Int × Int)} {L F : List Int} {es : List Tri3} (h : EarSeq L es F) : TieAdj t L → (∀ e ∈ es, pr e.2.1 e.2.2 ∈ t) → TieAdj t F := by
  induction h with
  | nil => exact fun a _ => a
  | cons hv hp hq c1 c2 hm _ ih => exact fun a r => ih (a.step hp hq c1 c2 hm (r _ (List.mem_cons_self ..))) fun e he => r e (List.mem_cons_of_mem _ he)
/-- each post in turn is tied to two that stand already, and these to one another -/
def Steps (t : List (Int × Int)) (P : Int → Prop) : List Tri3 → Prop
  | [] => True
  | e :: ms => P e.2.1 ∧ P e.2.2 ∧ pr e.1 e.2.1 ∈ t ∧ pr e.1 e.2.2 ∈ t ∧ pr e.2.1 e.2.2 ∈ t ∧ Steps t (fun z => z = e.1 ∨ P z) ms
theorem Steps.mono {t : List (Int × Int)} : ∀ {ms : List Tri3} {P P' : Int → Prop}, Steps t P ms → (∀ z, P z → P' z) → Steps t P' ms
  | [], _, _, _, _ => trivial
  | _ :: _, _, _, ⟨a, b, c, d, e, f⟩, h => ⟨h _ a, h _ b, c, d, e, f.mono fun z hz => hz.imp_right (h z)⟩
theorem Steps.app {t : List (Int × Int)} : ∀ {xs ys : List Tri3} {P : Int → Prop}, Steps t P xs → Steps t (fun z => P z ∨ z ∈ xs.map (·.1)) ys → Steps t P (xs ++ ys)
  | [], _, _, _, h => h.mono fun z hz => hz.elim id fun q => nomatch q
  | x :: xs, ys, P, ⟨a, b, c, d, e, f⟩, h => ⟨a, b, c, d, e, f.app (h.mono fun z hz => by
      rcases hz with hz | hz
      · exact .inl (.inr hz)
      · rw [List.map_cons] at hz
        rcases List.mem_cons.mp hz with e | e
        · exact .inl (.inl e)
        · exact .inr e)⟩
theorem Steps.at {t : List (Int × Int)} : ∀ {ms : List Tri3} {P : Int → Prop} {i : Nat} {e : Tri3}, Steps t P ms → ms[i]? = some e → (P e.2.1 ∨ e.2.1 ∈ (ms.take i).map (·.1)) ∧ (P e.2.2 ∨ e.2.2 ∈ (ms.take i).map (·.1)) ∧ pr e.1 e.2.1 ∈ t ∧ pr e.1 e.2.2 ∈ t ∧ pr e.2.1 e.2.2 ∈ t
  | [], _, _, _, _, h => nomatch h
  | x :: xs, P, 0, e, ⟨a, b, c, d, g, _⟩, h => by
    cases (Option.some.inj h : x = e)
    exact ⟨.inl a, .inl b, c, d, g⟩
  | x :: xs, P, i + 1, e, ⟨_, _, _, _, _, f⟩, h => by
    have h : xs[i]? = some e := h
    obtain ⟨a, b, c⟩ := f.at h
    have go : ∀ {z : Int}, ((z = x.1 ∨ P z) ∨ z ∈ (xs.take i).map (·.1)) → (P z ∨ z ∈ ((x :: xs).take (i + 1)).map (·.1)) := fun {z} hz => by
      rw [List.take_succ_cons, List.map_cons, List.mem_cons]
      rcases hz with (h | h) | h
      · exact .inr (.inl h)
      · exact .inl h
      · exact .inr (.inr h)
    exact ⟨go a, go b, c⟩
theorem EarSeq.steps {t : List (Int × Int)} {L F : List Int} {es : List Tri3} (h : EarSeq L es F) : TieAdj t L → (∀ e ∈ es, pr e.2.1 e.2.2 ∈ t) → Steps t (· ∈ F) es.reverse := by
  induction h with
  | nil => exact fun _ _ => trivial
  | @cons L L' v p q es F hv hp hq c1 c2 hm hs ih =>
    intro a r
    have rr := r _ (List.mem_cons_self ..)
    rw [List.reverse_cons]
    refine (ih (a.step hp hq c1 c2 hm rr) fun e he => r e (List.mem_cons_of_mem _ he)).app ?_
    have up : p ≠ v := by rcases c1 with ⟨c, _⟩ | ⟨c, _⟩ <;> omega
    have uq : q ≠ v := by rcases c2 with ⟨c, _⟩ | ⟨c, _⟩ <;> omega
    have go : ∀ {z : Int}, z ∈ L → z ≠ v → z ∈ F ∨ z ∈ (es.reverse).map (·.1) := fun {z} h1 h2 => by
      by_cases e : z ∈ es.map (·.1)
      · refine .inr ?_
        rw [List.map_reverse, List.mem_reverse]
        exact e
      · exact .inl ((hs.mem z).mpr ⟨(hm z).mpr ⟨h1, h2⟩, e⟩)
    have n1 := a _ _ (by rcases c1.nb.1 with _; exact (by show min p v ∈ L; rw [Int.min_def]; split <;> assumption)) (by show max p v ∈ L; rw [Int.max_def]; split <;> assumption) c1.nb
    have n2 := a _ _ (by show min v q ∈ L; rw [Int.min_def]; split <;> assumption) (by show max v q ∈ L; rw [Int.max_def]; split <;> assumption) c2.nb
    refine ⟨go hp up, go hq uq, ?_, n2, rr, trivial⟩
    have e : pr v p = pr p v := by
      show (min v p, max v p) = (min p v, max p v)
      rw [Int.min_comm, Int.max_comm]
    show pr v p ∈ t
    rw [e]
    exact n1
/-- the whole row of steps, the last three posts' first -/
theorem EarSeq.whole {t : List (Int × Int)} {L F : List Int} {es : List Tri3} (h : EarSeq L es F) (ha : TieAdj t L) (hr : ∀ e ∈ es, pr e.2.1 e.2.2 ∈ t) :
    ∃ l0 l1 l2, F = [l0, l1, l2] ∧ l0 < l1 ∧ (l0, l1) ∈ t ∧ Steps t (fun z => z = l0 ∨ z = l1) ((l2, l0, l1) :: es.reverse) ∧ ∀ z, z ∈ L → z = l0 ∨ z = l1 ∨ z ∈ ((l2, l0, l1) :: es.reverse).map (·.1) := by
  obtain ⟨f1, f2⟩ := h.fin
  have fa := h.adj ha hr
  have fs := h.steps ha hr
  have fm := h.mem
  obtain ⟨a, b, c, rfl⟩ : ∃ a b c, F = [a, b, c] := by
    match F, f1 with
    | [a, b, c], _ => exact ⟨a, b, c, rfl⟩
  have c1 := (List.pairwise_cons.mp f2).1 b (by simp)
  have c2 := (List.pairwise_cons.mp (List.pairwise_cons.mp f2).2).1 c (by simp)
  have pl : ∀ {x y : Int}, x < y → pr x y = (x, y) ∧ pr y x = (x, y) := fun {x y} h => by
    refine ⟨?_, ?_⟩
    · show (min x y, max x y) = _
      rw [Int.min_eq_left (by omega), Int.max_eq_right (by omega)]
    · show (min y x, max y x) = _
      rw [Int.min_eq_right (by omega), Int.max_eq_left (by omega)]
  have t1 : (a, b) ∈ t := fa a b (by simp) (by simp) ⟨c1, .inl fun z hz => by simp at hz; omega⟩
  have t2 : (b, c) ∈ t := fa b c (by simp) (by simp) ⟨c2, .inl fun z hz => by simp at hz; omega⟩
  have t3 : (a, c) ∈ t := fa a c (by simp) (by simp) ⟨by omega, .inr fun z hz => by simp at hz; omega⟩
  refine ⟨a, b, c, rfl, c1, t1, ⟨.inl rfl, .inr rfl, by rw [(pl (show a < c by omega)).2]; exact t3, by rw [(pl c2).2]; exact t2, by rw [(pl c1).1]; exact t1, fs.mono fun z hz => ?_⟩, fun z hz => ?_⟩
  · simp at hz
    rcases hz with e | e | e
    · exact .inr (.inl e)
    · exact .inr (.inr e)
    · exact .inl e
  · by_cases e : z ∈ es.map (·.1)
    · refine .inr (.inr ?_)
      rw [List.map_cons, List.mem_cons, List.map_reverse, List.mem_reverse]
      exact .inr e
    · have := (fm z).mpr ⟨hz, e⟩
      simp at this
      rw [List.map_cons, List.mem_cons]
      rcases this with h | h | h
      · exact .inl h
      · exact .inr (.inl h)
      · exact .inr (.inr (.inl h))

theorem cut_ints (rs : List Int) (lo : Int) (h0 : 0 ≤ lo) : ∃ rs' : List Int, cutV (rs.map V.int) (some lo) none = rs'.map V.int ∧ rs'.length = rs.length - lo.toNat := by
  refine ⟨(rs.drop lo.toNat), ?_, List.length_drop⟩
  unfold cutV
  rw [HT.sIx_none]
  have e : HT.sIx (rs.map V.int).length 0 (some lo) = min lo.toNat (rs.map V.int).length := by
    show (if lo < 0 then _ else _) = _
    rw [if_neg (by omega)]
  rw [e, List.length_map]
  have h2 : (rs.map V.int).drop (min lo.toNat rs.length) = (rs.drop lo.toNat).map V.int := by
    rw [List.map_drop]
    rcases Nat.le_total lo.toNat rs.length with h | h
    · rw [Nat.min_eq_left h]
    · rw [Nat.min_eq_right h, List.drop_of_length_le (by rw [List.length_map]; exact Nat.le_refl _), List.drop_of_length_le (by rw [List.length_map]; exact h)]
  rw [h2, List.take_of_length_le]
  rw [List.length_map, List.length_drop]
  omega
theorem int_at {rs : List Int} {k : Nat} (h : k < rs.length) : ∃ v : Int, v ∈ rs ∧ atI (rs.map V.int) (k : Int) = some (.int v) := by
  refine ⟨rs[k], List.getElem_mem h, atI_nat ?_⟩
  rw [List.getElem?_map, List.getElem?_eq_getElem h]
  rfl

theorem cut_take (xs : List V) (k : Nat) : cutV xs none (some (k : Int)) = xs.take k := by
  unfold cutV
  rw [HT.sIx_none, HT.sIx_nat, List.drop_zero, Nat.sub_zero, Nat.min_def]
  split
  · rfl
  · rw [List.take_length, List.take_of_length_le (by omega)]
theorem cut_drop (xs : List V) (k : Nat) : cutV xs (some (k : Int)) none = xs.drop k := by
  unfold cutV
  rw [HT.sIx_none, HT.sIx_nat]
  have e : xs.drop (min k xs.length) = xs.drop k := by
    rw [Nat.min_def]
    split
    · rfl
    · rw [List.drop_length, List.drop_of_length_le (by omega)]
  rw [e, List.take_of_length_le]
  rw [List.length_drop]
  omega
theorem yes_read {A B : Hp → Prop} {σ : L2.St} {H : Hp} (h : A H) : tYes σ H (fun b H3 => if b = true then A H3 else B H3) := by
  show if true = true then A H else B H
  rw [if_pos rfl]
  exact h
theorem small200 {n : Nat} (h : n ≤ 200) : n ≤ sizeLine := Nat.le_trans h (by decide)
theorem small200' {n : Nat} (h : n < 200) : n < sizeLine := Nat.lt_of_lt_of_le h (by decide)
theorem take_more {α : Type} {l : List α} {i : Nat} {x : α} (h : l[i]? = some x) : l.take (i + 1) = l.take i ++ [x] := by
  rw [List.take_add_one, h]; rfl
theorem rng_more (n : Int) (i : Nat) (h : i < n.toNat) : (rng n).take (i + 1) = (rng n).take i ++ [(i : Int)] := by
  refine take_more ?_
  unfold rng
  rw [List.getElem?_map, List.getElem?_range h]
  rfl

theorem and_t {A B : Prop} [Decidable A] [Decidable B] (h : decide A = true) : decide (A ∧ B) = decide B := by
  have := of_decide_eq_true h
  rw [decide_eq_decide]
  exact ⟨fun h => h.2, fun h => ⟨this, h⟩⟩
theorem and_f {A B : Prop} [Decidable A] [Decidable B] (h : ¬ decide A = true) : decide (A ∧ B) = false := decide_eq_false fun q => nd h q.1
theorem pmin (a b : Int) : (if b < a then b else a) = min a b := by
  by_cases h : b < a
  · rw [if_pos h, Int.min_eq_right (by omega)]
  · rw [if_neg h, Int.min_eq_left (by omega)]
theorem pmax (a b : Int) : (if b > a then b else a) = max a b := by
  by_cases h : b > a
  · rw [if_pos h, Int.max_eq_right (by omega)]
  · rw [if_neg h, Int.max_eq_left (by omega)]

def sp_pair : Sp := fun vs H Q _ => ∃ a b : Int, vs = [.int a, .int b] ∧ ∀ t, H t = none → Q (.ref t) (upd H t (.tup [.int (pr a b).1, .int (pr a b).2]))
def TrAt (H : Hp) (x : V) (e : Int × Int × Int) : Prop := ∃ t, x = V.ref t ∧ H t = some (.tup [.int e.1, .int e.2.1, .int e.2.2])
abbrev TrL (H : Hp) (xs : List V) (l : List (Int × Int × Int)) : Prop := All2 (TrAt H) xs l
theorem TrL.tups {H H' : Hp} {xs : List V} {l : List (Int × Int × Int)} (s : TupS H H') (h : TrL H xs l) : TrL H' xs l := All2.mono h fun _ _ ⟨t, e, ht⟩ => ⟨t, e, s _ _ ht⟩
abbrev earR (e : Int × Int × Int) : Int × Int := pr e.2.1 e.2.2
def sp_ears (K : PySem.W.Frag) : Sp := fun vs H Q _ => ∃ (n : Int) (r : Addr) (rs : List Int), vs = [.int n, .ref r] ∧ 3 ≤ n ∧ n ≤ 12 ∧ SqL K H r (rs.map V.int) ∧ n ≤ rs.length + 3 ∧ rowOk rs ∧
  ∀ H' p xs es, Same H H' → H p = none → H' p = some (.lst xs) → TrL H' xs es → (es.length : Int) = n - 3 → IsCut n (es.map earR) → (∃ F, EarSeq (rng n) es F) → Q (.ref p) H'
theorem rng_perm_step {n : Int} {E : List (Int × Int)} {L : List Int} {r : Int × Int} {L' : List Int} (h : ∀ R, CutL L R → CutL (rng n) (E ++ R)) (s : ∀ R, CutL L' R → CutL L (r :: R)) : ∀ R, CutL L' R → CutL (rng n) ((E ++ [r]) ++ R) := fun R hR => by
  rw [List.append_assoc]
  exact h _ (s R hR)
theorem mem_but {L : List Int} (hL : L.Pairwise (· < ·)) {k : Nat} {v : Int} (hv : L[k]? = some v) : ∀ z, z ∈ L.take k ++ L.drop (k + 1) ↔ z ∈ L ∧ z ≠ v := by
  intro z
  obtain ⟨hk, ev⟩ := List.getElem?_eq_some_iff.mp hv
  have eL : L = L.take k ++ v :: L.drop (k + 1) := by
    rw [← ev, ← List.drop_eq_getElem_cons hk, List.take_append_drop]
  have hs := hL
  rw [eL] at hs
  obtain ⟨s1, s2, _⟩ := sorted_split hs
  have m : z ∈ L ↔ z ∈ L.take k ++ v :: L.drop (k + 1) := by rw [← eL]
  rw [m, mem_gap]
  constructor
  · intro h
    refine ⟨.inl h, fun e => ?_⟩
    subst e
    rcases List.mem_append.mp h with h | h
    · exact absurd (s1 _ h) (Int.lt_irrefl _)
    · exact absurd (s2 _ h) (Int.lt_irrefl _)
  · rintro ⟨h | h, e⟩
    · exact h
    · exact absurd h e
def earW (n : Int) (r p : Addr) (H : Hp) : Nat → L2.St → Hp → Prop := fun m σ H' => ∃ (l : Addr) (k : Option V) (xs : List V) (es : List (Int × Int × Int)) (L : List Int), σ = [some (.int n), some (.ref r), k, some (.ref l), some (.ref p)] ∧ Same H H' ∧ H' p = some (.lst xs) ∧ l ≠ p ∧ TrL H' xs es ∧ H' l = some (.lst (L.map V.int)) ∧ L.length = m ∧ 3 ≤ m ∧ ((es.length + m : Nat) : Int) = n ∧ L.Pairwise (· < ·) ∧ (∀ R, CutL L R → CutL (rng n) (es.map earR ++ R)) ∧ ∀ fs F, EarSeq L fs F → EarSeq (rng n) (es ++ fs) F
theorem int_atN {rs : List Int} {k : Nat} (h : k < rs.length) : ∃ v : Int, rs[k]? = some v ∧ atI (rs.map V.int) (k : Int) = some (.int v) := by
  refine ⟨rs[k], List.getElem?_eq_getElem h, atI_nat ?_⟩
  rw [List.getElem?_map, List.getElem?_eq_getElem h]
  rfl
theorem ear_prev {L : List Int} {k : Nat} (hk : k < L.length) : ∃ p : Int, (if k = 0 then L.getLast? else L[k - 1]?) = some p ∧ atI (L.map V.int) ((k : Int) - 1) = some (.int p) := by
  by_cases h : k = 0
  · subst h
    have hne : L ≠ [] := fun e => by rw [e] at hk; cases hk
    refine ⟨L.getLast hne, by rw [if_pos rfl, List.getLast?_eq_some_getLast hne], ?_⟩
    have e : L.map V.int = L.dropLast.map V.int ++ [V.int (L.getLast hne)] := by
      rw [← List.map_singleton, ← List.map_append, List.dropLast_concat_getLast hne]
    rw [e]
    exact atI_last _ _
  · obtain ⟨v, e1, e2⟩ := int_atN (rs := L) (k := k - 1) (by omega)
    refine ⟨v, by rw [if_neg h]; exact e1, ?_⟩
    rw [show (k : Int) - 1 = ((k - 1 : Nat) : Int) by omega]
    exact e2
def sp_many (K : PySem.W.Frag) : Sp := fun vs H Q _ => ∃ (p : Addr) (rs : List Int), vs = [.ref p] ∧ SqL K H p (rs.map V.int) ∧ 2 ≤ rs.length ∧ ∀ n : Int, 3 ≤ n → n ≤ 12 → Q (.int n) H
theorem ok__law_many (T : Env K mg) (su : SupP flM P) : FnOk P w K mg base CX0 1 T.a__law_many T.fd__law_many ["_law_row"] (sp_many K) := by
  refine T.F__law_many.ok sc__law_many (fun vs H Q E h => ?_) (fun cdv A outer s H vs Q E hr h => ?_)
  · obtain ⟨p, rs, rfl, _⟩ := h
    rfl
  · obtain ⟨p, rs, rfl, hS, hl, q⟩ := h
    refine ⟨_, (pss_cons (ps_if (pt_cmpR op_eq (pe_op op_mod (pe_ix ix_list (pv 0) pe_int (fun _ _ => rfl)) pe_int) pe_int (nomark _))
 (pss_one (ps_ret (pe_op op_add pe_int (pe_op op_mod (pe_ix ix_list (pv 0) pe_int (fun _ _ => rfl)) pe_int))))
 pss_nil)
 (pss_one (ps_ret (pe_op op_add pe_int (pe_op op_mod (pe_ix ix_list (pv 0) pe_int (fun _ _ => rfl)) pe_int))))), ?_⟩
    obtain ⟨r0, m0, a0⟩ := int_at (rs := rs) (k := 0) (by omega)
    obtain ⟨r1, m1, a1⟩ := int_at (rs := rs) (k := 1) (by omega)
    have h4 := Int.emod_nonneg r1 (show (4 : Int) ≠ 0 by decide)
    have h4' := Int.emod_lt_of_pos r1 (show (0 : Int) < 4 by decide)
    have h6 := Int.emod_nonneg r1 (show (6 : Int) ≠ 0 by decide)
    have h6' := Int.emod_lt_of_pos r1 (show (0 : Int) < 6 by decide)
    refine ⟨_, rfl, p, _, _, _, rfl, rfl, hS, a0, _, _, rfl, rfl, (by show (0 : Int) < _; decide), rfl, _, rfl, ite2 (fun _ => ?_) (fun _ => ?_)⟩
    · exact ⟨_, rfl, p, _, _, _, rfl, rfl, hS, a1, _, _, rfl, rfl, (by show (0 : Int) < _; decide), _, _, rfl, rfl, q _ (by omega) (by omega)⟩
    · exact ⟨_, rfl, p, _, _, _, rfl, rfl, hS, a1, _, _, rfl, rfl, (by show (0 : Int) < _; decide), _, _, rfl, rfl, q _ (by omega) (by omega)⟩

/-! ### the ropes of a drawn cutting, sides, ties -/
theorem sp_new {H H' : Hp} {q : Addr} {o : HO} {H2 : Hp} (s : Same H H2) (h : H2 q = none) : Same H (upd H2 q o) := s.trans (same_new h)
theorem none_back {H H' : Hp} {q : Addr} (s : Same H H') (h : H' q = none) : H q = none := by
  cases e : H q with
  | none => rfl
  | some o => rw [s _ _ e] at h; cases h
def sp_ropes (K : PySem.W.Frag) : Sp := fun vs H Q _ => ∃ (p : Addr) (xs : List V) (es : List (Int × Int × Int)), vs = [.ref p] ∧ H p = some (.lst xs) ∧ TrL H xs es ∧ es.length ≤ 100 ∧
  ∀ H' q ys, Same H H' → H q = none → H' q = some (.lst ys) → PrL K H' ys (sort2 (es.map earR)) → Q (.ref q) H'
def sp_sides (K : PySem.W.Frag) : Sp := fun vs H Q _ => ∃ n : Int, vs = [.int n] ∧ 3 ≤ n ∧ n ≤ 12 ∧ ∀ H' q ys, Same H H' → H q = none → H' q = some (.lst ys) → PrL K H' ys (sidesL n) → Q (.ref q) H'
theorem sidesL_len {n : Int} (h : 3 ≤ n) : (sidesL n).length = n.toNat := by
  unfold sidesL
  rw [List.length_append, List.length_map, rng_len, List.length_singleton]
  omega
def sp_ties (K : PySem.W.Frag) : Sp := fun vs H Q _ => ∃ (n : Int) (c : Addr) (xs : List V) (l : List (Int × Int)), vs = [.int n, .ref c] ∧ 3 ≤ n ∧ n ≤ 12 ∧ H c = some (.lst xs) ∧ PrL K H xs l ∧ l.length ≤ 100 ∧
  ∀ H' q ys, Same H H' → H q = none → H' q = some (.lst ys) → PrL K H' ys (sort2 (sidesL n ++ l)) → Q (.ref q) H'
abbrev tiesS (n : Int) (l : List (Int × Int)) : List (Int × Int) := sort2 (sidesL n ++ l)
theorem tiesS_len {n : Int} {l : List (Int × Int)} (h3 : 3 ≤ n) (h12 : n ≤ 12) (hl : l.length ≤ 100) : (tiesS n l).length ≤ 200 := by
  unfold tiesS
  rw [sort2_len, List.length_append, sidesL_len h3]
  omega
def sp_beside (K : PySem.W.Frag) (C : Addr) : Sp := fun vs H Q E => ∃ (n : Int) (c : Addr) (xs : List V) (l : List (Int × Int)) (a b : Int), vs = [.int n, .ref c, .int a, .int b] ∧ 3 ≤ n ∧ n ≤ 12 ∧ H c = some (.lst xs) ∧ PrL K H xs l ∧ l.length ≤ 100 ∧
  (pr a b ∉ tiesS n l → ∀ H', Same H H' → E (.ref C) none H') ∧
  (pr a b ∈ tiesS n l → ∀ H' q, Same H H' → H q = none → H' q = some (.lst ((besL (tiesS n l) n a b).map V.int)) → Q (.ref q) H')
theorem filter_more {α : Type} {P : α → Bool} {l : List α} {x : α} : (l ++ [x]).filter P = l.filter P ++ (if P x then [x] else []) := by
  rw [List.filter_append]
  congr 1
  cases h : P x <;> simp [List.filter_cons, h]
def sp_lbeside (K : PySem.W.Frag) : Sp := fun vs H Q _ => ∃ (n : Int) (c : Addr) (xs : List V) (t : List (Int × Int)) (a b : Int), vs = [.int n, .ref c, .int a, .int b] ∧ 3 ≤ n ∧ n ≤ 12 ∧ H c = some (.lst xs) ∧ PrL K H xs t ∧ t.length ≤ 200 ∧
  ∀ H' q, Same H H' → H q = none → H' q = some (.lst ((besL t n a b).map V.int)) → Q (.ref q) H'
/-! ### lowest -/
def sp_lowest (C : Addr) : Sp := fun vs H Q E => ∃ t b : Int, vs = [.int t, .int b] ∧ b.natAbs.log2 < 9000 ∧ (b = 0 → E (.ref C) none H) ∧
  (b ≠ 0 → ∀ p, H p = none → Q (.ref p) (upd H p (.tup [.int (lowI t b).1, .int (lowI t b).2])))
theorem ok_lowest (T : Env K mg) (su : SupP flM P) : FnOk P w K mg base (L2.CX P w) 1 T.a_lowest T.fd_lowest ["top", "bottom"] (sp_lowest T.C_NoFraction) := by
  refine T.F_lowest.okX sc_lowest (fun vs H Q E h => ?_) (fun cdv A outer s H vs Q E hr h => ?_)
  · obtain ⟨t, b, rfl, _⟩ := h
    rfl
  · obtain ⟨t, b, rfl, hlog, k0, k1⟩ := h
    refine ⟨_, (pss_cons (ps_if (pt_cmpR op_eq (pv 1) pe_int (nomark _))
 (pss_one (ps_raise rfl (takes_of rfl rfl rfl rfl) (pmk_own PySem.F.excBase_ValueError T.x_NoFraction T.c_NoFraction T.k_NoFraction (raises_own T.bs_NoFraction T.ty_NoFraction) rfl)))
 pss_nil)
 (pss_cons (ps_set (i := 2) sc_lowest.nd rfl (.inl rfl) (pe_callBfun cr_gcd (by rfl) T.m_gcd (pa_cons (pv 0) (pa_cons (pv 1) pa_nil))))
 (C8.pss_cut (ps_if (pt_cmpR op_lt (pv 1) pe_int (nomark _))
 (pss_one (ps_set (i := 2) sc_lowest.nd rfl (.inl rfl) (pe_un un_neg (pv 2))))
 pss_nil)
 (pss_one (ps_ret (pe_tup (pa_cons (pe_op op_fdivX (pv 0) (pv 2)) (pa_cons (pe_op op_fdivX (pv 1) (pv 2)) pa_nil)))))))), ?_⟩
    refine ⟨_, rfl, rfl, _, rfl, ite2 (fun hd => ?_) (fun hd => ?_)⟩
    · exact k0 (V.int.inj (of_decide_eq_true hd))
    · have hb : b ≠ 0 := fun z => hd (by rw [z]; rfl)
      have q := k1 hb
      have hgp : 0 < Nat.gcd t.natAbs b.natAbs := Nat.gcd_pos_of_pos_right _ (by omega)
      have hgl := gcd_log (t := t) hb hlog
      refine ⟨_, rfl, _, rfl, _, _, rfl, ?_⟩
      generalize hG : Nat.gcd t.natAbs b.natAbs = g at *
      refine ⟨fun σ' H2 => H = H2 ∧ ((b < 0 ∧ σ' = [some (.int t), some (.int b), some (.int (-(g : Int)))]) ∨ (¬ b < 0 ∧ σ' = [some (.int t), some (.int b), some (.int (g : Int))])), ?_, ?_⟩
      · refine ⟨_, rfl, _, _, rfl, rfl, _, rfl, ite2 (fun hd => ?_) (fun hd => ?_)⟩
        · exact ⟨_, rfl, _, rfl, rfl, .inl ⟨of_decide_eq_true hd, rfl⟩⟩
        · exact ⟨rfl, .inr ⟨nd hd, rfl⟩⟩
      · rintro σ' H2 ⟨rfl, ⟨hn, rfl⟩ | ⟨hn, rfl⟩⟩
        · have hgn : (-(g : Int)).natAbs.log2 < 9000 := by rw [Int.natAbs_neg]; exact hgl
          refine ⟨_, rfl, _, rfl, _, _, rfl, rfl, ⟨by omega, hgn⟩, _, rfl, _, rfl, _, _, rfl, rfl, ⟨by omega, hgn⟩, (by show 2 ≤ sizeLine; decide), fun p hp => ?_⟩
          have := q p hp
          unfold lowI at this
          rw [if_pos hn, hG] at this
          show Q (.ref p) (upd H p (.tup [.int (t.fdiv (-(g : Int))), .int (b.fdiv (-(g : Int)))]))
          rw [fdiv_lowN (by omega), fdiv_lowN (by omega)]
          exact this
        · refine ⟨_, rfl, _, rfl, _, _, rfl, rfl, ⟨by omega, hgl⟩, _, rfl, _, rfl, _, _, rfl, rfl, ⟨by omega, hgl⟩, (by show 2 ≤ sizeLine; decide), fun p hp => ?_⟩
          have := q p hp
          unfold lowI at this
          rw [if_neg hn, hG] at this
          show Q (.ref p) (upd H p (.tup [.int (t.fdiv (g : Int)), .int (b.fdiv (g : Int))]))
          rw [fdiv_lowP (by omega), fdiv_lowP (by omega)]
          exact this

/-! ### parts: plus, less, times, over, smaller -/
theorem lt_mul {i j : Int} {a b n : Nat} (ha : i.natAbs < 2 ^ a) (hb : j.natAbs < 2 ^ b) (h : a + b ≤ n) : (i * j).natAbs < 2 ^ n :=
  Nat.lt_of_lt_of_le (wide_lt ha hb) (Nat.pow_le_pow_right (by decide) h)
theorem lt_add {i j : Int} {a n : Nat} (ha : i.natAbs < 2 ^ a) (hb : j.natAbs < 2 ^ a) (h : a + 1 ≤ n) : (i + j).natAbs < 2 ^ n := by
  have h1 : (i + j).natAbs < 2 ^ (a + 1) := by
    have := Int.natAbs_add_le i j
    rw [Nat.pow_succ]
    omega
  exact Nat.lt_of_lt_of_le h1 (Nat.pow_le_pow_right (by decide) h)
theorem lt_sub {i j : Int} {a n : Nat} (ha : i.natAbs < 2 ^ a) (hb : j.natAbs < 2 ^ a) (h : a + 1 ≤ n) : (i - j).natAbs < 2 ^ n := by
  rw [Int.sub_eq_add_neg]
  exact lt_add ha (by rw [Int.natAbs_neg]; exact hb) h
theorem mulW {i j : Int} {a b : Nat} (ha : i.natAbs < 2 ^ a) (hb : j.natAbs < 2 ^ b) (h0 : 0 < a) (h1 : 0 < b) (h : a + b ≤ 1000000) : IntMulOk i j := (wide_mul ha hb h0 h1 h).ok

/-! ### fractions above nought, told by their values -/
structure Frac (b : Nat) (x : Int × Int) : Prop where
  top : 0 < x.1
  low : Low x.1 x.2
  bt : x.1.natAbs < 2 ^ b
  bb : x.2.natAbs < 2 ^ b
theorem Frac.more {a b : Nat} {x : Int × Int} (h : Frac a x) (l : a ≤ b) : Frac b x :=
  ⟨h.top, h.low, Nat.lt_of_lt_of_le h.bt (Nat.pow_le_pow_right (by decide) l), Nat.lt_of_lt_of_le h.bb (Nat.pow_le_pow_right (by decide) l)⟩
theorem lowV {t b : Int} {k : Nat} (ht : 0 < t) (hb : 0 < b) (h1 : t.natAbs < 2 ^ k) (h2 : b.natAbs < 2 ^ k) : Frac k (lowI t b) := by
  obtain ⟨L, e, e1, e2⟩ := lowI_ok (t := t) (b := b) (by omega)
  refine ⟨?_, L, by omega, by omega⟩
  have h3 : 0 < (lowI t b).1 * b := by rw [e]; exact Int.mul_pos L.pos ht
  exact Int.pos_of_mul_pos_left h3 hb
def mulV (x y : Int × Int) : Int × Int := lowI (x.1 * y.1) (x.2 * y.2)
def divV (x y : Int × Int) : Int × Int := lowI (x.1 * y.2) (x.2 * y.1)
def addV (x y : Int × Int) : Int × Int := lowI (x.1 * y.2 + y.1 * x.2) (x.2 * y.2)
theorem mulV_frac {a b : Nat} {x y : Int × Int} (h : Frac a x) (k : Frac b y) : Frac (a + b) (mulV x y) :=
  lowV (Int.mul_pos h.top k.top) (Int.mul_pos h.low.pos k.low.pos) (lt_mul h.bt k.bt (Nat.le_refl _)) (lt_mul h.bb k.bb (Nat.le_refl _))
theorem divV_frac {a b : Nat} {x y : Int × Int} (h : Frac a x) (k : Frac b y) : Frac (a + b) (divV x y) :=
  lowV (Int.mul_pos h.top k.low.pos) (Int.mul_pos h.low.pos k.top) (lt_mul h.bt k.bb (Nat.le_refl _)) (lt_mul h.bb k.bt (Nat.le_refl _))
theorem addV_frac {a b : Nat} {x y : Int × Int} (h : Frac a x) (k : Frac b y) : Frac (a + b + 1) (addV x y) := by
  have h1 := Int.mul_pos h.top k.low.pos
  have h2 := Int.mul_pos k.top h.low.pos
  refine lowV (by omega) (Int.mul_pos h.low.pos k.low.pos) (lt_add (a := a + b) (lt_mul h.bt k.bb (Nat.le_refl _)) ?_ (Nat.le_refl _)) (lt_mul h.bb k.bb (by omega))
  rw [Int.mul_comm]
  exact lt_mul h.bb k.bt (Nat.le_refl _)
theorem mulV_comm (x y : Int × Int) : mulV x y = mulV y x := by
  unfold mulV
  rw [Int.mul_comm x.1, Int.mul_comm x.2]
theorem addV_comm (x y : Int × Int) : addV x y = addV y x := by
  unfold addV
  rw [Int.add_comm, Int.mul_comm x.2]
theorem Frac.log {b : Nat} {x : Int × Int} (h : Frac b x) (l : b ≤ 4000) : x.2.natAbs.log2 < 9000 :=
  log_small (b := 4000) (by decide) (Nat.lt_of_lt_of_le h.bb (Nat.pow_le_pow_right (by decide) l)) (by decide)
/-- two fractions are handed in; F tells what comes of them -/
def sp_bin (K : PySem.W.Frag) (F : Int × Int → Int × Int → Int × Int) : Sp := fun vs H Q _ => ∃ (x y : V) (p q : Int × Int), vs = [x, y] ∧ PrAt K H x p ∧ PrAt K H y q ∧ Frac 4000 p ∧ Frac 4000 q ∧
  ∀ H' v, Same H H' → PrAt K H' v (F p q) → Q v H'
theorem bin_out {H : Hp} {Q : VK} {z : Int × Int} (k : ∀ H' v, Same H H' → PrAt K H' v z → Q v H') : ∀ r, H r = none → Q (.ref r) (upd H r (.tup [.int z.1, .int z.2])) :=
  fun r hr => k _ _ (same_new hr) ⟨r, rfl, upd_same⟩
theorem ok_times (T : Env K mg) (su : SupP flM P) : FnOk P w K mg base CX0 2 T.a_times T.fd_times ["one", "other"] (sp_bin K mulV) := by
  refine T.F_times.ok sc_times (fun vs H Q E h => ?_) (fun cdv A outer s H vs Q E hr h => ?_)
  · obtain ⟨x, y, p, q, rfl, _⟩ := h
    rfl
  · obtain ⟨x, y, p, q, rfl, hx, hy, fp, fq, k⟩ := h
    refine ⟨_, (pss_one (ps_ret (pe_call (ok_lowest T su) (hr.mono (by decide)) (by rfl) T.g_lowest T.F_lowest.kp T.b_lowest .nil passL (pa_cons (pe_op op_mulU (pe_ix ix_tup (pv 0) pe_int (fun _ _ => rfl)) (pe_ix ix_tup (pv 1) pe_int (fun _ _ => rfl))) (pa_cons (pe_op op_mulU (pe_ix ix_tup (pv 0) pe_int (fun _ _ => rfl)) (pe_ix ix_tup (pv 1) pe_int (fun _ _ => rfl))) pa_nil))))), ?_⟩
    obtain ⟨a, rfl, ha⟩ := hx.sq
    obtain ⟨b, rfl, hb⟩ := hy.sq
    refine ⟨_, rfl, a, _, _, _, rfl, rfl, ha, atI_nat (j := 0) rfl, _, rfl, b, _, _, _, rfl, rfl, hb, atI_nat (j := 0) rfl, _, _, rfl, rfl, mulW fp.bt fq.bt (by decide) (by decide) (by decide), ?_⟩
    refine ⟨_, rfl, a, _, _, _, rfl, rfl, ha, atI_nat (j := 1) rfl, _, rfl, b, _, _, _, rfl, rfl, hb, atI_nat (j := 1) rfl, _, _, rfl, rfl, mulW fp.bb fq.bb (by decide) (by decide) (by decide), ?_⟩
    have hbp := Int.mul_pos fp.low.pos fq.low.pos
    exact ⟨_, _, rfl, log_small (by decide) (lt_mul (n := 8999) fp.bb fq.bb (by decide)) (by decide), fun z => absurd z (by omega), fun _ => bin_out k⟩
theorem ok__law_mul (T : Env K mg) (su : SupP flM P) : FnOk P w K mg base CX0 2 T.a__law_mul T.fd__law_mul ["_law_one", "_law_other"] (sp_bin K mulV) := by
  refine T.F__law_mul.ok sc__law_mul (fun vs H Q E h => ?_) (fun cdv A outer s H vs Q E hr h => ?_)
  · obtain ⟨x, y, p, q, rfl, _⟩ := h
    rfl
  · obtain ⟨x, y, p, q, rfl, hx, hy, fp, fq, k⟩ := h
    refine ⟨_, (pss_one (ps_ret (pe_call (ok__law_low T su) (hr.mono (by decide)) (by rfl) T.g__law_low T.F__law_low.kp T.b__law_low .nil pass0 (pa_cons (pe_op op_mulU (pe_ix ix_tup (pv 0) pe_int (fun _ _ => rfl)) (pe_ix ix_tup (pv 1) pe_int (fun _ _ => rfl))) (pa_cons (pe_op op_mulU (pe_ix ix_tup (pv 0) pe_int (fun _ _ => rfl)) (pe_ix ix_tup (pv 1) pe_int (fun _ _ => rfl))) pa_nil))))), ?_⟩
    obtain ⟨a, rfl, ha⟩ := hx.sq
    obtain ⟨b, rfl, hb⟩ := hy.sq
    refine ⟨_, rfl, a, _, _, _, rfl, rfl, ha, atI_nat (j := 0) rfl, _, rfl, b, _, _, _, rfl, rfl, hb, atI_nat (j := 0) rfl, _, _, rfl, rfl, mulW fp.bt fq.bt (by decide) (by decide) (by decide), ?_⟩
    refine ⟨_, rfl, a, _, _, _, rfl, rfl, ha, atI_nat (j := 1) rfl, _, rfl, b, _, _, _, rfl, rfl, hb, atI_nat (j := 1) rfl, _, _, rfl, rfl, mulW fp.bb fq.bb (by decide) (by decide) (by decide), ?_⟩
    have hbp := Int.mul_pos fp.low.pos fq.low.pos
    exact ⟨_, _, rfl, by omega, log_small (by decide) (lt_mul (n := 8999) fp.bb fq.bb (by decide)) (by decide), bin_out k⟩
/-! ### fractions with a bound of its own for top and bottom -/
structure F2 (t b : Nat) (x : Int × Int) : Prop where
  top : 0 < x.1
  low : Low x.1 x.2
  bt : x.1 < 2 ^ t
  bb : x.2 < 2 ^ b
theorem ipow_le {a b : Nat} (h : a ≤ b) : (2 : Int) ^ a ≤ 2 ^ b := by
  have := Nat.pow_le_pow_right (n := 2) (by decide) h
  exact_mod_cast this
theorem F2.more {t b t' b' : Nat} {x : Int × Int} (h : F2 t b x) (l1 : t ≤ t') (l2 : b ≤ b') : F2 t' b' x := by
  have p1 : (2 : Int) ^ t ≤ 2 ^ t' := ipow_le l1
  have p2 : (2 : Int) ^ b ≤ 2 ^ b' := ipow_le l2
  exact ⟨h.top, h.low, Int.lt_of_lt_of_le h.bt p1, Int.lt_of_lt_of_le h.bb p2⟩
theorem natAbs_lt_pow {x : Int} {k : Nat} (h : 0 < x) : x.natAbs < 2 ^ k ↔ x < 2 ^ k := by
  have e : ((2 ^ k : Nat) : Int) = (2 : Int) ^ k := by rw [Int.natCast_pow]; rfl
  omega
theorem F2.frac {t b k : Nat} {x : Int × Int} (h : F2 t b x) (l1 : t ≤ k) (l2 : b ≤ k) : Frac k x :=
  have g := h.more l1 l2
  ⟨g.top, g.low, (natAbs_lt_pow g.top).mpr g.bt, (natAbs_lt_pow g.low.pos).mpr g.bb⟩
theorem Frac.f2 {k : Nat} {x : Int × Int} (h : Frac k x) : F2 k k x := ⟨h.top, h.low, (natAbs_lt_pow h.top).mp h.bt, (natAbs_lt_pow h.low.pos).mp h.bb⟩
theorem pow2_mul {a b : Int} {s t : Nat} (ha : 0 < a) (hb : 0 < b) (h1 : a < 2 ^ s) (h2 : b < 2 ^ t) : a * b < 2 ^ (s + t) := by
  rw [Int.pow_add]
  exact Int.lt_of_lt_of_le (Int.mul_lt_mul_of_pos_right h1 hb) (Int.mul_le_mul_of_nonneg_left (Int.le_of_lt h2) (Int.le_of_lt (Int.pow_pos (by decide))))
theorem lowI_f2 {t b : Int} {s k : Nat} (ht : 0 < t) (hb : 0 < b) (h1 : t < 2 ^ s) (h2 : b < 2 ^ k) : F2 s k (lowI t b) := by
  obtain ⟨L, e, l1, l2⟩ := lowI_pos (t := t) hb
  have hp := L.pos
  have h3 : 0 < (lowI t b).1 := by
    have h4 : 0 < (lowI t b).1 * b := by rw [e]; exact Int.mul_pos hp ht
    rw [Int.mul_comm] at h4
    exact Int.pos_of_mul_pos_right h4 hb
  refine ⟨h3, L, ?_, by omega⟩
  have : (lowI t b).1 ≤ t := by omega
  omega
theorem F2.mul {s t s' t' : Nat} {x y : Int × Int} (h : F2 s t x) (k : F2 s' t' y) : F2 (s + s') (t + t') (mulV x y) :=
  lowI_f2 (Int.mul_pos h.top k.top) (Int.mul_pos h.low.pos k.low.pos) (pow2_mul h.top k.top h.bt k.bt) (pow2_mul h.low.pos k.low.pos h.bb k.bb)
theorem F2.div {s t s' t' : Nat} {x y : Int × Int} (h : F2 s t x) (k : F2 s' t' y) : F2 (s + t') (t + s') (divV x y) :=
  lowI_f2 (Int.mul_pos h.top k.low.pos) (Int.mul_pos h.low.pos k.top) (pow2_mul h.top k.low.pos h.bt k.bb) (pow2_mul h.low.pos k.top h.bb k.bt)
theorem F2.add {s t s' t' : Nat} {x y : Int × Int} (h : F2 s t x) (k : F2 s' t' y) : F2 (max (s + t') (s' + t) + 1) (t + t') (addV x y) := by
  have h1 := Int.mul_pos h.top k.low.pos
  have h2 := Int.mul_pos k.top h.low.pos
  have p1 := pow2_mul h.top k.low.pos h.bt k.bb
  have p2 := pow2_mul k.top h.low.pos k.bt h.bb
  have q1 : (2 : Int) ^ (s + t') ≤ 2 ^ (max (s + t') (s' + t)) := ipow_le (Nat.le_max_left _ _)
  have q2 : (2 : Int) ^ (s' + t) ≤ 2 ^ (max (s + t') (s' + t)) := ipow_le (Nat.le_max_right _ _)
  refine lowI_f2 (by omega) (Int.mul_pos h.low.pos k.low.pos) ?_ (pow2_mul h.low.pos k.low.pos h.bb k.bb)
  rw [Int.pow_succ]
  omega
def sp_size (K : PySem.W.Frag) : Sp := fun vs H Q _ => ∃ n : Int, vs = [.int n] ∧ ∀ H' v x, Same H H' → PrAt K H' v x → F2 10 7 x → Q v H'
theorem ok__law_size (T : Env K mg) (su : SupP flM P) : FnOk P w K mg base CX0 2 T.a__law_size T.fd__law_size ["_law_one"] (sp_size K) := by
  refine T.F__law_size.ok sc__law_size (fun vs H Q E h => ?_) (fun cdv A outer s H vs Q E hr h => ?_)
  · obtain ⟨n, rfl, _⟩ := h
    rfl
  · obtain ⟨n, rfl, k⟩ := h
    refine ⟨_, (pss_cons (ps_if (pt_cmpR op_eq (pe_op op_mod (pv 0) pe_int) pe_int (nomark _))
 (pss_one (ps_ret (pe_call (ok__law_low T su) (hr.mono (by decide)) (by rfl) T.g__law_low T.F__law_low.kp T.b__law_low .nil pass0 (pa_cons (pe_op op_add pe_int (pe_op op_mod (pe_op op_fdiv (pv 0) pe_int) pe_int)) (pa_cons (pe_op op_add pe_int (pe_op op_mod (pe_op op_fdiv (pv 0) pe_int) pe_int)) pa_nil)))))
 pss_nil)
 (pss_one (ps_ret (pe_call (ok__law_low T su) (hr.mono (by decide)) (by rfl) T.g__law_low T.F__law_low.kp T.b__law_low .nil pass0 (pa_cons (pe_op op_add pe_int (pe_op op_mod (pv 0) pe_int)) (pa_cons (pe_op op_add pe_int (pe_op op_mod (pe_op op_fdiv (pv 0) pe_int) pe_int)) pa_nil)))))), ?_⟩
    have out : ∀ t b : Int, 0 < t → 0 < b → t < 1000 → b < 100 → b ≠ 0 ∧ b.natAbs.log2 < 9000 ∧ ∀ r, H r = none → Q (.ref r) (upd H r (.tup [.int (lowI t b).1, .int (lowI t b).2])) := fun t b h1 h2 h3 h4 =>
      ⟨by omega, log_small (b := 10) (by decide) (by omega) (by decide), fun r hr => k _ _ _ (same_new hr) ⟨r, rfl, upd_same⟩ (lowI_f2 h1 h2 (by omega) (by omega))⟩
    have m := fun (z : Int) (d : Int) (hd : 0 < d) => And.intro (Int.emod_nonneg z (show d ≠ 0 by omega)) (Int.emod_lt_of_pos z hd)
    have m1 := m (n / 11) 997 (by decide)
    have m2 := m (n / 7) 89 (by decide)
    have m3 := m n 12 (by decide)
    have m4 := m (n / 12) 7 (by decide)
    refine ⟨_, rfl, _, _, rfl, rfl, (by show (0 : Int) < _; decide), rfl, _, rfl, ite2 (fun _ => ?_) (fun _ => ?_)⟩
    · refine ⟨_, rfl, _, _, rfl, rfl, ⟨by decide, by decide⟩, _, _, rfl, rfl, (by show (0 : Int) < _; decide), _, _, rfl, rfl, ?_⟩
      refine ⟨_, rfl, _, _, rfl, rfl, ⟨by decide, by decide⟩, _, _, rfl, rfl, (by show (0 : Int) < _; decide), _, _, rfl, rfl, ?_⟩
      exact ⟨_, _, rfl, out _ _ (by omega) (by omega) (by omega) (by omega)⟩
    · refine ⟨_, rfl, _, _, rfl, rfl, (by show (0 : Int) < _; decide), _, _, rfl, rfl, ?_⟩
      refine ⟨_, rfl, _, _, rfl, rfl, ⟨by decide, by decide⟩, _, _, rfl, rfl, (by show (0 : Int) < _; decide), _, _, rfl, rfl, ?_⟩
      exact ⟨_, _, rfl, out _ _ (by omega) (by omega) (by omega) (by omega)⟩

/-! ### turning -/
def turnL (n : Int) (l : List (Int × Int)) (p : Int × Int) : List (Int × Int) := match besL (tiesS n l) n p.1 p.2 with
  | [x, y] => sort2 ((l.filter fun q => decide (q ≠ p)) ++ [(x, y)])
  | _ => []
/-- what a turning makes -/
structure Turns (n : Int) (l : List (Int × Int)) (p : Int × Int) (x y : Int) : Prop where
  bes : besL (tiesS n l) n p.1 p.2 = [x, y]
  x0 : 0 ≤ x
  xy : x < y
  yn : y < n
  new : (x, y) ∉ l
  crs : (x < p.1 ∧ p.1 < y ∧ y < p.2) ∨ (p.1 < x ∧ x < p.2 ∧ p.2 < y)
  isC : IsCut n (turnL n l p)
  mem : ∀ q, q ∈ turnL n l p ↔ (q ∈ l ∧ q ≠ p) ∨ q = (x, y)
  srt : (turnL n l p).Pairwise le2
  len : (turnL n l p).length = l.length
theorem filter_ne_len {l : List (Int × Int)} {p : Int × Int} (hn : l.Nodup) (hp : p ∈ l) : (l.filter fun q => decide (q ≠ p)).length + 1 = l.length := by
  induction l with
  | nil => cases hp
  | cons a l ih =>
    rw [List.nodup_cons] at hn
    rw [List.filter_cons]
    by_cases e : a = p
    · subst e
      rw [if_neg (by simp)]
      have : l.filter (fun q => decide (q ≠ a)) = l := List.filter_eq_self.mpr fun q hq => decide_eq_true fun e => hn.1 (e ▸ hq)
      rw [this, List.length_cons]
    · rw [if_pos (by simpa using e), List.length_cons, List.length_cons, ih hn.2 ((List.mem_cons.mp hp).resolve_left (Ne.symm e))]
theorem turns {n : Int} {l : List (Int × Int)} {p : Int × Int} (hc : IsCut n l) (hp : p ∈ l) : ∃ x y, Turns n l p x y := by
  obtain ⟨a, b⟩ := p
  obtain ⟨x, y, h1, h2, h3, h4, h5, h6, h7⟩ := turn_cut hc (t := tiesS n l) (fun p => sort2_mem) hp
  have e : turnL n l (a, b) = sort2 ((l.filter fun q => decide (q ≠ (a, b))) ++ [(x, y)]) := by
    unfold turnL
    rw [h1]
  have hm : ∀ q, q ∈ turnL n l (a, b) ↔ (q ∈ l ∧ q ≠ (a, b)) ∨ q = (x, y) := fun q => by
    rw [e, sort2_mem, List.mem_append, List.mem_filter, decide_eq_true_eq, List.mem_singleton]
  have hnd : ((l.filter fun q => decide (q ≠ (a, b))) ++ [(x, y)]).Nodup := by
    rw [List.nodup_append]
    refine ⟨hc.nd.filter _, by simp, fun u hu v hv => ?_⟩
    rw [List.mem_singleton.mp hv]
    intro e
    rw [e] at hu
    exact h5 (List.mem_filter.mp hu).1
  refine ⟨x, y, h1, h2, h3, h4, h5, h6, h7 _ ?_ hm, hm, ?_, ?_⟩
  · rw [e]; exact sort2_nodup hnd
  · rw [e]; exact sort2_sorted _
  · rw [e, sort2_len, List.length_append, List.length_singleton]
    exact filter_ne_len hc.nd hp
def sp_newrope (K : PySem.W.Frag) (C : Addr) : Sp := fun vs H Q E => ∃ (n : Int) (c : Addr) (xs : List V) (l : List (Int × Int)) (a b : Int), vs = [.int n, .ref c, .int a, .int b] ∧ 3 ≤ n ∧ n ≤ 12 ∧ H c = some (.lst xs) ∧ PrL K H xs l ∧ l.length ≤ 100 ∧ IsCut n l ∧
  (pr a b ∉ l → ∀ H', Same H H' → E (.ref C) none H') ∧
  (pr a b ∈ l → ∀ x y, Turns n l (pr a b) x y → ∀ H' q, Same H H' → H q = none → H' q = some (.tup [.int x, .int y]) → Q (.ref q) H')
theorem rope_tie {n : Int} {l : List (Int × Int)} {p : Int × Int} (h : p ∈ l) : p ∈ tiesS n l := sort2_mem.mpr (List.mem_append.mpr (.inr h))
def sp_turned (K : PySem.W.Frag) (C : Addr) : Sp := fun vs H Q E => ∃ (n : Int) (c : Addr) (xs : List V) (l : List (Int × Int)) (a b : Int), vs = [.int n, .ref c, .int a, .int b] ∧ 3 ≤ n ∧ n ≤ 12 ∧ H c = some (.lst xs) ∧ PrL K H xs l ∧ l.length ≤ 100 ∧ IsCut n l ∧
  (pr a b ∉ l → ∀ H', Same H H' → E (.ref C) none H') ∧
  (pr a b ∈ l → ∀ H' q ys, Same H H' → H q = none → H' q = some (.lst ys) → PrL K H' ys (turnL n l (pr a b)) → Q (.ref q) H')
theorem PrAt.tups {H H' : Hp} {x : V} {p : Int × Int} (s : TupS H H') (h : PrAt K H x p) : PrAt K H' x p := by
  obtain ⟨t, e, ht⟩ := h
  exact ⟨t, e, s _ _ ht⟩

/-! ### two pairs cross -/
def crossI (p q : Int × Int) : Bool := if q.1 = p.1 ∨ q.1 = p.2 ∨ q.2 = p.1 ∨ q.2 = p.2 then false else
  decide ((decide (min p.1 p.2 < q.1 ∧ q.1 < max p.1 p.2)) ≠ (decide (min p.1 p.2 < q.2 ∧ q.2 < max p.1 p.2)))
theorem dec_ne (A B : Prop) [Decidable A] [Decidable B] : (decide A ≠ decide B) ↔ ¬ (A ↔ B) := by
  by_cases h1 : A <;> by_cases h2 : B <;> simp [h1, h2]
theorem crossI_symm {p q : Int × Int} (h1 : p.1 ≠ p.2) (h2 : q.1 ≠ q.2) : crossI p q = crossI q p := by
  obtain ⟨a, b⟩ := p
  obtain ⟨c, d⟩ := q
  unfold crossI
  dsimp only at *
  by_cases e : c = a ∨ c = b ∨ d = a ∨ d = b
  · rw [if_pos e, if_pos (by omega)]
  · rw [if_neg e, if_neg (by omega), decide_eq_decide, dec_ne, dec_ne]
    omega
def sp_cross (K : PySem.W.Frag) : Sp := fun vs H Q _ => ∃ (x y : V) (p q : Int × Int), vs = [x, y] ∧ PrAt K H x p ∧ PrAt K H y q ∧ Q (.bl (crossI p q)) H
def sp_crosses (K : PySem.W.Frag) : Sp := fun vs H Q _ => ∃ (x y : V) (p q : Int × Int), vs = [x, y] ∧ PrAt K H x p ∧ PrAt K H y q ∧ Q (.bl (crossI q p)) H
theorem inV2 (i a b : Int) : inV (V.int i) [V.int a, V.int b] = decide (i = a ∨ i = b) := by
  show ((a == i) || ((b == i) || false)) = _
  have e : ∀ x y : Int, (x == y) = decide (y = x) := fun x y => by
    by_cases h : y = x
    · rw [decide_eq_true h, h]; exact beq_self_eq_true x
    · rw [decide_eq_false h]; exact beq_eq_false_iff_ne.mpr fun z => h z.symm
  rw [Bool.or_false, e, e, ← Bool.decide_or]
/-- low < i < high, i asked once -/
def rChainI (lo hi i : Int) : Bool := decide (lo < i ∧ i < hi)

theorem cross_fin {lo hi i j : Int} : (!decide (V.bl (decide (lo < i ∧ i < hi)) = V.bl (decide (lo < j ∧ j < hi)))) = decide ((decide (lo < i ∧ i < hi)) ≠ (decide (lo < j ∧ j < hi))) := by
  rw [← decide_not, decide_eq_decide]
  exact ⟨fun h e => h (congrArg V.bl e), fun h e => h (V.bl.inj e)⟩
theorem crossI_t {p q : Int × Int} (h : q.1 = p.1 ∨ q.1 = p.2 ∨ q.2 = p.1 ∨ q.2 = p.2) : crossI p q = false := by unfold crossI; rw [if_pos h]
theorem crossI_f {p q : Int × Int} (h : ¬ (q.1 = p.1 ∨ q.1 = p.2 ∨ q.2 = p.1 ∨ q.2 = p.2)) : crossI p q = (!decide (V.bl (decide (min p.1 p.2 < q.1 ∧ q.1 < max p.1 p.2)) = V.bl (decide (min p.1 p.2 < q.2 ∧ q.2 < max p.1 p.2)))) := by
  unfold crossI
  rw [cross_fin, if_neg h]

/-! ### turned and turned again: the mathematics -/
theorem list2_ext {l m : List (Int × Int)} (h1 : l.Pairwise le2) (h2 : m.Pairwise le2) (n1 : l.Nodup) (n2 : m.Nodup) (h : ∀ x, x ∈ l ↔ x ∈ m) : l = m :=
  List.Perm.eq_of_pairwise (le := le2) (fun _ _ _ _ => le2_anti) h1 h2 ((List.perm_ext_iff_of_nodup n1 n2).mpr h)
theorem cut_lt {n : Int} {l : List (Int × Int)} (h : IsCut n l) {p : Int × Int} (hp : p ∈ l) : 0 ≤ p.1 ∧ p.1 + 2 ≤ p.2 ∧ p.2 < n := by
  obtain ⟨T, hT, hR⟩ := h.ex
  obtain ⟨a, b⟩ := p
  have := (hR a b).mp hp
  have t := tie_in hT this.1
  exact ⟨t.1, this.2.1, by show b < n; omega⟩
theorem cut_nocross {n : Int} {l : List (Int × Int)} (h : IsCut n l) {p q : Int × Int} (hp : p ∈ l) (hq : q ∈ l) : crossI p q = false := by
  obtain ⟨T, hT, hR⟩ := h.ex
  obtain ⟨a, b⟩ := p
  obtain ⟨c, d⟩ := q
  have tp := ((hR a b).mp hp).1
  have tq := ((hR c d).mp hq).1
  have ip := tie_in hT tp
  have iq := tie_in hT tq
  by_cases e : c = a ∨ c = b ∨ d = a ∨ d = b
  · exact crossI_t e
  · unfold crossI
    rw [if_neg e, decide_eq_false]
    dsimp only
    rw [Int.min_eq_left (by omega), Int.max_eq_right (by omega), dec_ne]
    intro hne
    by_cases h1 : a < c ∧ c < b
    · exact nocross hT tp tq h1.1 h1.2 (by omega)
    · exact nocross hT tq tp (a := c) (b := d) (by omega) (by omega) (by omega)
theorem turns_cross {n : Int} {l : List (Int × Int)} {p : Int × Int} {x y : Int} (h : Turns n l p x y) : crossI (x, y) p = true := by
  have := h.crs
  have := h.xy
  unfold crossI
  rw [if_neg (by dsimp only; omega), decide_eq_true]
  dsimp only
  rw [Int.min_eq_left (by omega), Int.max_eq_right (by omega), dec_ne]
  omega
theorem one_of {l : List (Int × Int)} {p : Int × Int} (hn : l.Nodup) (h : ∀ q, q ∈ l ↔ q = p) : l = [p] := by
  have : l.Perm [p] := (List.perm_ext_iff_of_nodup hn (by simp)).mpr fun q => by rw [h, List.mem_singleton]
  exact List.perm_singleton.mp this
theorem turns_fresh {n : Int} {l : List (Int × Int)} {p : Int × Int} {x y : Int} (h : Turns n l p x y) : ((turnL n l p).filter fun q => decide (q ∉ l)) = [(x, y)] := by
  refine one_of (h.isC.nd.filter _) fun q => ?_
  rw [List.mem_filter, decide_eq_true_eq, h.mem]
  constructor
  · rintro ⟨⟨h1, _⟩ | h1, h2⟩
    · exact absurd h1 h2
    · exact h1
  · rintro rfl
    exact ⟨.inr rfl, h.new⟩
theorem turns_old {n : Int} {l : List (Int × Int)} {p : Int × Int} {x y : Int} (h : Turns n l p x y) : p ∉ turnL n l p := fun hm => by
  have hc := h.crs
  rcases (h.mem p).mp hm with ⟨_, h2⟩ | h2
  · exact h2 rfl
  · rw [h2] at hc
    dsimp only at hc
    omega
theorem pr_comm (a b : Int) : pr a b = pr b a := by
  show (min a b, max a b) = (min b a, max b a)
  rw [Int.min_comm, Int.max_comm]
theorem pr_of_lt {a b : Int} (h : a < b) : pr a b = (a, b) := by
  show (min a b, max a b) = _
  rw [Int.min_eq_left (by omega), Int.max_eq_right (by omega)]
theorem turn_back {n : Int} {l : List (Int × Int)} {p : Int × Int} {x y : Int} (hc : IsCut n l) (hs : l.Pairwise le2) (hp : p ∈ l) (h : Turns n l p x y) : turnL n (turnL n l p) (x, y) = l := by
  have hxm : (x, y) ∈ turnL n l p := (h.mem _).mpr (.inr rfl)
  obtain ⟨x', y', h'⟩ := turns h.isC hxm
  obtain ⟨a, b⟩ := p
  have lt := cut_lt hc hp
  have hcr := h.crs
  dsimp only at lt hcr
  have hx : x ∈ besL (tiesS n l) n a b := by rw [h.bes]; simp
  have hy : y ∈ besL (tiesS n l) n a b := by rw [h.bes]; simp
  have sp : ∀ z, z ∈ besL (tiesS n l) n a b → pr a z ∈ tiesS n l ∧ pr b z ∈ tiesS n l := fun z hz => by
    have := (List.mem_filter.mp hz).2
    rw [Bool.and_eq_true, decide_eq_true_eq, decide_eq_true_eq] at this
    exact this
  have mv : ∀ q, q ∈ tiesS n l → q ≠ (a, b) → q ∈ tiesS n (turnL n l (a, b)) := fun q hq hne => by
    have := sort2_mem.mp hq
    refine sort2_mem.mpr ?_
    rcases List.mem_append.mp this with h1 | h1
    · exact List.mem_append.mpr (.inl h1)
    · exact List.mem_append.mpr (.inr ((h.mem q).mpr (.inl ⟨h1, hne⟩)))
  have ne1 : ∀ z, z ≠ a → z ≠ b → pr a z ≠ (a, b) ∧ pr b z ≠ (a, b) := fun z h1 h2 => by
    constructor
    · intro e
      have e1 : min a z = a := congrArg Prod.fst e
      have e2 : max a z = b := congrArg Prod.snd e
      omega
    · intro e
      have e1 : min b z = a := congrArg Prod.fst e
      have e2 : max b z = b := congrArg Prod.snd e
      omega
  have nx := ne1 x (by omega) (by omega)
  have ny := ne1 y (by omega) (by omega)
  have ax := mv _ (sp x hx).1 nx.1
  have bx := mv _ (sp x hx).2 nx.2
  have ay := mv _ (sp y hy).1 ny.1
  have bx' := mv _ (sp y hy).2 ny.2
  have ha : a ∈ besL (tiesS n (turnL n l (a, b))) n x y := by
    refine List.mem_filter.mpr ⟨mem_rng.mpr ⟨lt.1, by omega⟩, ?_⟩
    rw [pr_comm x a, pr_comm y a, decide_eq_true ax, decide_eq_true ay]; rfl
  have hb : b ∈ besL (tiesS n (turnL n l (a, b))) n x y := by
    refine List.mem_filter.mpr ⟨mem_rng.mpr ⟨by omega, lt.2.2⟩, ?_⟩
    rw [pr_comm x b, pr_comm y b, decide_eq_true bx, decide_eq_true bx']; rfl
  rw [h'.bes] at ha hb
  have hxy' := h'.xy
  simp only [List.mem_cons, List.not_mem_nil, or_false] at ha hb
  have e1 : x' = a := by omega
  have e2 : y' = b := by omega
  subst e1; subst e2
  refine list2_ext h'.srt hs h'.isC.nd hc.nd fun q => ?_
  rw [h'.mem, h.mem]
  constructor
  · rintro (⟨⟨h1, _⟩ | h1, h2⟩ | h1)
    · exact h1
    · exact absurd h1 h2
    · rw [h1]; exact hp
  · intro hq
    by_cases e : q = (x', y')
    · exact .inr e
    · refine .inl ⟨.inl ⟨hq, e⟩, fun e2 => h.new (e2 ▸ hq)⟩

def TupAt (H : Hp) (x : V) (ns : List Int) : Prop := ∃ t, x = V.ref t ∧ H t = some (.tup (ns.map V.int))
theorem PrAt.tup {H : Hp} {x : V} {p : Int × Int} (h : PrAt K H x p) : TupAt H x [p.1, p.2] := h
def sp_tuple : Sp := fun vs H Q _ => ∃ (x : V) (ns : List Int), vs = [x, .int (ns.length : Int)] ∧ TupAt H x ns ∧ ns.length ≤ 100 ∧ Q (.bl true) H
theorem ok__law_tuple (T : Env K mg) (su : SupP flM P) : FnOk P w K mg base CX0 2 T.a__law_tuple T.fd__law_tuple ["_law_found", "_law_many_here"] sp_tuple := by
  refine T.F__law_tuple.ok sc__law_tuple (fun vs H Q E h => ?_) (fun cdv A outer s H vs Q E hr h => ?_)
  · obtain ⟨x, ns, rfl, _⟩ := h
    rfl
  · obtain ⟨x, ns, rfl, hx, hl, q⟩ := h
    refine ⟨_, (pss_cons (ps_if (PW.pt (pw_or (pt_not (pt_val (pe_callB call_isi (by rfl) T.m_isinstance (by decide +kernel) (pa_cons (pv 0) (pa_cons (pe_bltn (v := .ty "tuple") (u := .type "tuple") (by rfl) T.m_tuple (by decide +kernel) rfl) pa_nil))))) (pw_or1 (pt_cmpR op_ne (pe_callB (id := "len") call_len_seq (by rfl) T.m_len (by decide +kernel) (pa_cons (pv 0) pa_nil)) (pv 1) (nomark _)))))
 (pss_one (ps_ret pe_bl))
 pss_nil)
 (pss_cons (ps_for PassesOwn.never rfl (pi_tup (pv 0)) (pg_name (i := 2) sc__law_tuple.nd rfl (.inl rfl))
 (pss_one (ps_if (pt_not (pt_val (pe_call (ok__law_whole T su) (hr.mono (by decide)) (by rfl) T.g__law_whole T.F__law_whole.kp T.b__law_whole .nil pass0 (pa_cons (pv 2) pa_nil))))
 (pss_one (ps_ret pe_bl))
 pss_nil)))
 (pss_one (ps_ret pe_bl)))), ?_⟩
    obtain ⟨p, rfl, hp⟩ := hx
    have hS : SqT K H p (ns.map V.int) := .inl (.inl hp)
    refine ⟨_, rfl, _, _, _, _, _, rfl, .ty _, .base (.tup hp), kit_ty (by decide +kernel), true, rfl, ?_⟩
    show if false = true then _ else _
    rw [if_neg Bool.false_ne_true]
    refine ⟨_, rfl, _, _, rfl, .inr hS, _, rfl, rfl, _, rfl, ?_⟩
    have el : V.int ((ns.map V.int).length : Int) = V.int (ns.length : Int) := by rw [List.length_map]
    refine iteNS el ?_
    refine ⟨_, rfl, p, rfl, ⟨_, hS⟩, for_tup (K := K) (a := p) (xs := ns.map V.int) (fun i σ H' => H' = H ∧ ∃ z, σ = [some (.ref p), some (.int (ns.length : Int)), z]) ⟨rfl, _, rfl⟩ (fun i σ H' _ ⟨e, _⟩ => by rw [e]; exact hS) ?_ ?_⟩
    · rintro i v σ H' hi ⟨rfl, z, rfl⟩
      obtain ⟨n, rfl⟩ : ∃ n, v = .int n := by
        rw [List.getElem?_map] at hi
        cases e : ns[i]? with
        | none => rw [e] at hi; cases hi
        | some m => rw [e] at hi; exact ⟨m, (Option.some.inj hi).symm⟩
      refine ⟨_, rfl, _, rfl, true, rfl, iteF ?_⟩
      exact ⟨rfl, _, rfl⟩
    · rintro σ H' ⟨rfl, z, rfl⟩
      exact q

/-! ### the law's look at a told dict -/
def sp_dict (K : PySem.W.Frag) : Sp := fun vs H Q _ => ∃ (a b : Addr) (dom dom' : List (Int × Int)) (f : Int × Int → Int × Int), vs = [.ref a, .ref b] ∧ a ≠ b ∧ FD K H a dom f ∧ FD K H b dom' f ∧ (∀ p, p ∈ dom ↔ p ∈ dom') ∧
  (∀ p ∈ dom', Frac 4000 (f p)) ∧ dom'.length ≤ 100 ∧ ∀ H', Same H H' → Q (.bl true) H'
/-! ### the law's lengths for the ties -/
theorem perm_of_sub {α : Type} [BEq α] [LawfulBEq α] : ∀ (l m : List α), l.Nodup → (∀ x ∈ l, x ∈ m) → m.length ≤ l.length → m.Perm l
  | [], m, _, _, h => by
    have : m = [] := List.length_eq_zero_iff.mp (Nat.le_zero.mp h)
    rw [this]
  | x :: l, m, hn, hs, h => by
    have hx : x ∈ m := hs x (by simp)
    have hnx := List.nodup_cons.mp hn
    have ih := perm_of_sub l (m.erase x) hnx.2 (fun y hy => (List.mem_erase_of_ne (fun e => hnx.1 (by rw [e] at hy; exact hy))).mpr (hs y (List.mem_cons_of_mem _ hy))) (by
      rw [List.length_erase_of_mem hx]
      rw [List.length_cons] at h
      omega)
    exact (List.perm_cons_erase hx).trans (ih.cons x)

theorem mod_apart {i j s L : Nat} (h : j < i) (hi : i < L) : (i + s) % L ≠ (j + s) % L := fun e => by
  have h1 := Nat.sub_mod_eq_zero_of_mod_eq e
  rw [show i + s - (j + s) = i - j by omega, Nat.mod_eq_of_lt (by omega)] at h1
  omega
theorem nodup_at2 {α : Type} {l : List α} (h : l.Nodup) {i j : Nat} {x : α} (hi : l[i]? = some x) (hj : l[j]? = some x) : i = j := nodup_at h hi hj
def rotK (tl : List (Int × Int)) (s j : Nat) : Int × Int := tl.getD ((j + s) % tl.length) (0, 0)
theorem rotK_at {tl : List (Int × Int)} (h : 0 < tl.length) (s j : Nat) : tl[(j + s) % tl.length]? = some (rotK tl s j) := by
  have hl : (j + s) % tl.length < tl.length := Nat.mod_lt _ h
  unfold rotK
  rw [List.getD_eq_getElem?_getD, List.getElem?_eq_getElem hl]
  rfl
theorem rotK_mem {tl : List (Int × Int)} (h : 0 < tl.length) (s j : Nat) : rotK tl s j ∈ tl := List.mem_of_getElem? (rotK_at h s j)
theorem rotK_new {tl : List (Int × Int)} (hn : tl.Nodup) {s i : Nat} (hi : i < tl.length) : rotK tl s i ∉ (List.range i).map (rotK tl s) := fun hm => by
  obtain ⟨j, hj, e⟩ := List.mem_map.mp hm
  rw [List.mem_range] at hj
  have h0 : 0 < tl.length := by omega
  have a := rotK_at h0 s i
  rw [← e] at a
  exact mod_apart (s := s) hj hi (nodup_at hn a (rotK_at h0 s j))
def sp_sized (K : PySem.W.Frag) : Sp := fun vs H Q _ => ∃ (t p : Addr) (zs : List V) (tl : List (Int × Int)) (rs : List Int), vs = [.ref t, .ref p] ∧ H t = some (.lst zs) ∧ PrL K H zs tl ∧ SqL K H p (rs.map V.int) ∧ rowOk rs ∧
  tl.Nodup ∧ (∀ p ∈ tl, smallP p) ∧ 0 < tl.length ∧ tl.length ≤ rs.length ∧ tl.length ≤ 60 ∧
  ∀ H' d dom f, Same H H' → H d = none → FD K H' d dom f → (∀ p, p ∈ dom ↔ p ∈ tl) → (∀ p, p ∈ tl → F2 10 7 (f p)) → Q (.ref d) H'
/-! ### the ratio of a rope -/
/-- the post between, the post beyond -/
def mOf (p : Int × Int) (x y : Int) : Int := if p.1 < x ∧ x < p.2 then x else y
def zOf (p : Int × Int) (x y : Int) : Int := if p.1 < x ∧ x < p.2 then y else x
def rateV (f : Int × Int → Int × Int) (p : Int × Int) (m z : Int) : Int × Int := divV (mulV (f (pr p.1 m)) (f (pr p.2 z))) (mulV (f (pr m p.2)) (f (pr z p.1)))
def rateL (n : Int) (l : List (Int × Int)) (f : Int × Int → Int × Int) (p : Int × Int) : Int × Int := match besL (tiesS n l) n p.1 p.2 with
  | [x, y] => rateV f p (mOf p x y) (zOf p x y)
  | _ => (0, 1)
theorem rateL_at {n : Int} {l : List (Int × Int)} {f : Int × Int → Int × Int} {p : Int × Int} {x y : Int} (h : Turns n l p x y) : rateL n l f p = rateV f p (mOf p x y) (zOf p x y) := by
  unfold rateL
  rw [h.bes]
theorem bes_ties {t : List (Int × Int)} {n a b : Int} {x : Int} (h : x ∈ besL t n a b) : pr a x ∈ t ∧ pr b x ∈ t := by
  unfold besL at h
  have := (List.mem_filter.mp h).2
  simp only [Bool.and_eq_true, decide_eq_true_eq] at this
  exact this

structure Around (n : Int) (l : List (Int × Int)) (p : Int × Int) (m z : Int) : Prop where
  lm : pr p.1 m ∈ tiesS n l
  hm : pr p.2 m ∈ tiesS n l
  lz : pr p.1 z ∈ tiesS n l
  hz : pr p.2 z ∈ tiesS n l
  m0 : p.1 < m
  m1 : m < p.2
  out : z < p.1 ∨ p.2 < z
theorem round {n : Int} {l : List (Int × Int)} {p : Int × Int} {x y : Int} (h : Turns n l p x y) : Around n l p (mOf p x y) (zOf p x y) := by
  have hx := bes_ties (t := tiesS n l) (n := n) (a := p.1) (b := p.2) (x := x) (by rw [h.bes]; simp)
  have hy := bes_ties (t := tiesS n l) (n := n) (a := p.1) (b := p.2) (x := y) (by rw [h.bes]; simp)
  have hc := h.crs
  unfold mOf zOf
  by_cases g : p.1 < x ∧ x < p.2
  · rw [if_pos g, if_pos g]
    exact ⟨hx.1, hx.2, hy.1, hy.2, g.1, g.2, by omega⟩
  · rw [if_neg g, if_neg g]
    exact ⟨hy.1, hy.2, hx.1, hx.2, by omega, by omega, by omega⟩
/-- a tuple of two pairs -/
def TwoAt (K : PySem.W.Frag) (H : Hp) (v : V) (p q : Int × Int) : Prop := ∃ (t : Addr) (u w : V), v = .ref t ∧ H t = some (.tup [u, w]) ∧ PrAt K H u p ∧ PrAt K H w q
theorem TwoAt.mono {H H' : Hp} {v : V} {p q : Int × Int} (s : Same H H') (h : TwoAt K H v p q) : TwoAt K H' v p q := by
  obtain ⟨t, u, w, e, ht, hu, hw⟩ := h
  exact ⟨t, u, w, e, s _ _ ht, hu.mono s, hw.mono s⟩
def sp_round (K : PySem.W.Frag) (C : Addr) : Sp := fun vs H Q E => ∃ (n : Int) (c : Addr) (xs : List V) (l : List (Int × Int)) (a b : Int), vs = [.int n, .ref c, .int a, .int b] ∧ 3 ≤ n ∧ n ≤ 12 ∧ H c = some (.lst xs) ∧ PrL K H xs l ∧ l.length ≤ 100 ∧ IsCut n l ∧
  (pr a b ∉ l → ∀ H', Same H H' → E (.ref C) none H') ∧
  (pr a b ∈ l → ∀ x y, Turns n l (pr a b) x y → ∀ H' q u w, Same H H' → H' q = some (.tup [u, w]) → TwoAt K H' u (pr (pr a b).1 (mOf (pr a b) x y)) (pr (pr a b).2 (zOf (pr a b) x y)) → TwoAt K H' w (pr (mOf (pr a b) x y) (pr a b).2) (pr (zOf (pr a b) x y) (pr a b).1) → Q (.ref q) H')
theorem pi_listK {X : Cx} {tg l : Expr} {tl : TE} (hK : X.K = K) (hl : PE X l tl) : PI X tg l (iList K tl) := by
  subst hK
  exact pi_list hl
theorem pg_tupK {X : Cx} {pos : Pos} {es : List Expr} {k : Nat} {t : TGs} {n : Nat} (hK : X.K = K) (hc : X.calm = true) (h : PGs X es t)
    (hn : (assignEach es X.env).length = n := by rfl) (hst : (assignEach es X.env).findIdx? (·.1) = none := by rfl) : PG X (.Tuple es k pos) (gTup K n t) := by
  subst hK
  exact pg_tup hc h hn hst

/-! ### {key: value for ..}, the keys tuples -/
section
variable {X : Cx}
theorem put_dt {pins : List (Addr × Obj)} {σ : L2.St} {H : Hp} {s : Shared} {Z : Value → Shared → Prop} {d b : Addr} {kvs : List (List L2.Key × V)} {k : List L2.Key} {v : V} {r : Value} {R : Unit → Shared → Prop} (hu : X.A.units + 1 < cLine)
    (J : Inv X pins σ H s) (ed : H d = some (.dT kvs)) (eb : H b = some (.tup (k.map kV))) (few : kvs.length < sizeLine) (rv : RelV v r) (go : ∀ s2, Inv X pins σ (upd H d (.dT (putK kvs k v))) s2 → R () s2) :
    wpAny (model X.prog X.w) X.A (dictSet d (.ref b) r) R Z s := by
  obtain ⟨lz, nd, ms, al, ent⟩ := dt_of J.hok ed
  have lm : ms.length ≤ sizeLine := (Paired.length al) ▸ lz
  have lput : (putK kvs k v).length ≤ sizeLine := Nat.le_trans (length_putK kvs k v) (by omega)
  refine wpAny_dictSet_heap (hsz := lm) (show X.A.units < cLine by omega) (key_of J.hok eb) ent fun g ent2 sb => go _ ?_
  obtain ⟨ob, e1, n1, w1, w2, w3, w4, _, w5⟩ := ent2
  refine d_write J (by rw [ed]; exact True.intro) sb ⟨ob, w1⟩ ⟨lput, nd, _, ?_, ob, e1, n1, w1, w2, w3, w4, w5⟩
  refine (al.put k eb rv).keeps fun c ys hc => ?_
  rw [upd_ne (ne_of hc ed (fun q => nomatch q))]
  exact hc
/-- D is the new dict -/
def tDct (wi : TI) (g : TG) (tt : TT) (tk tv : TE) (vs : List Nat) : TE := fun σ H Q => wi σ H fun J H1 => ∀ D, H1 D = none → ∃ W : Nat → Nat → Hp → Prop, (∃ m, W 0 m (upd H1 D (.dT []))) ∧ ∀ i m H, W i m H →
  (J.stop i H ∧ Q (.ref D) H) ∨ (J.go i H ∧ ∃ Nx : Hp → Prop, (∀ H', Nx H' → ∃ m', m' < m ∧ W (i + 1) m' H') ∧ ∀ x H', J.yld i H x H' → g x (wipe σ vs) H' fun σ2 H2 => wipe σ2 vs = wipe σ vs ∧ tt σ2 H2 fun b H3 =>
    if b = true then tk σ2 H3 fun y H4 => tv σ2 H4 fun z H5 => ∃ kvs k c, y = .ref c ∧ H5 c = some (.tup (k.map kV)) ∧ H5 D = some (.dT kvs) ∧ kvs.length < sizeLine ∧ Nx (upd H5 D (.dT (putK kvs k z))) else Nx H3)
end

section
variable {X : Cx}
theorem dct_block {pins : List (Addr × Obj)} {s : Shared} {σ : L2.St} {H : Hp} {Q : VK} {kx vx tg iter : Expr} {ifs : List Expr} {scope : Scope} {own : List (Str × Nat)} {pos at0 : Pos} {wi : TI} {g : TG} {tt : TT} {tk tv : TE} {use : Option (Value → Sem Unit)} {Z : Value → Shared → Prop}
    (cal : X.calm = true) (hu : X.A.units + 1 < cLine) (uniq : X.N.Nodup) (I : Inv X pins σ H s) (walk : PI X tg iter wi) (blk : BlkOk X.N X.env.scope scope own)
    (ptg : ∀ (s0 : Shared) (H0 : Hp) (C0 : Addr) (cs : List (Str × Addr)) (ad : List Addr), PG (X.blk s0 H0 scope (compEnvC scope cs C0 X.env) ad) tg g)
    (pts : ∀ (s0 : Shared) (H0 : Hp) (C0 : Addr) (cs : List (Str × Addr)) (ad : List Addr), PTs (X.blk s0 H0 scope (compEnvC scope cs C0 X.env) ad) ifs tt)
    (pky : ∀ (s0 : Shared) (H0 : Hp) (C0 : Addr) (cs : List (Str × Addr)) (ad : List Addr), PE (X.blk s0 H0 scope (compEnvC scope cs C0 X.env) ad) kx tk)
    (pvl : ∀ (s0 : Shared) (H0 : Hp) (C0 : Addr) (cs : List (Str × Addr)) (ad : List Addr), PE (X.blk s0 H0 scope (compEnvC scope cs C0 X.env) ad) vx tv)
    (fold : ∀ x, foldedSetIterable iter X.env x = pure x) (rd : tDct wi g tt tk tv (own.map (·.2)) σ H Q)
    (fin : ∀ D C sf names F, Inv X pins σ F sf → Q (.ref D) F → sf.heap.Ns C names → FpOk X pins F C → compPost (model X.prog X.w) X.A X.xe use Z (.ref D) C (.ok .next) sf) :
    wpAny (model X.prog X.w) X.A (comprehension (.DictComp kx vx [⟨tg, iter, ifs, 0⟩] scope pos) scope X.env at0 newDict false (eval iter X.env) use) Z X.xe s := by
  have cells : ∀ y ∈ scope.names, y.2 = .free → ∃ c, X.env.cells.lookup y.1 = some c := fun y my ey =>
    (blk.free y my ey).elim (fun z => I.ok.has _ (.inl z)) (fun z => I.ok.has _ (.inr z))
  refine wpAny_comprehension_free (use := use) rfl fold (closure_ok cells) blk.kind (fun y my ey => (blk.uniq y my).trans (by rw [ey])) (thn (walk.run pins s σ H _ I rd) fun x0 sa ha => thn ha fun i0 sb hb => ?_)
  obtain ⟨itA, ad, stn, J, Hb, rfl, Ib, Trn, stb, frb, body⟩ := hb
  refine wpAny_newObj_type (newEnv_comp ?_)
  obtain ⟨D, eD⟩ : ∃ D, D = sb.heap.objs.size := ⟨_, rfl⟩
  rw [← eD]
  have freeD : Hb D = none := Ib.hok.fresh (Nat.le_of_eq eD.symm)
  obtain ⟨W, ⟨mS, wS⟩, each⟩ := body D freeD
  obtain ⟨sc, esc⟩ : ∃ sc : Shared, sc = { sb with heap := sb.heap.push { cls := .type "dict", data := .dict #[] } } := ⟨_, rfl⟩
  obtain ⟨Hc, eHc⟩ : ∃ Hc, Hc = upd Hb D (.dT []) := ⟨_, rfl⟩
  have hpc : sc.heap = sb.heap.push { cls := .type "dict", data := .dict #[] } := by rw [esc]
  have Ic : Inv X pins σ Hc sc := by
    rw [eHc, esc]
    refine Ib.laid (t' := sb.toks) (fun b o z => Heap.get?_push_of_some _ z) (Nat.le_of_eq eD.symm) ?_
    rw [eD]
    exact dt_empty sb.heap Ib.big
  have small : ∀ b ∈ ad, b < sb.heap.objs.size := fun b mb => let ⟨_, ob, _⟩ := Trn.obj _ _ stb b mb; Heap.lt_size ob
  have frc : ∀ b ∈ ad, FpOk X pins Hc b ∧ b < sc.heap.objs.size := fun b mb => by
    have lb := small b mb
    refine ⟨⟨?_, (frb b mb).2⟩, by rw [hpc, Heap.size_push]; exact Nat.lt_succ_of_lt lb⟩
    rw [eHc, upd_ne (by rw [eD]; exact Nat.ne_of_lt lb)]
    exact (frb b mb).1
  have stc : stn 0 sc.heap := Trn.keep _ _ _ stb fun b _ o z => by rw [hpc]; exact Heap.get?_push_of_some _ z
  have Id := block_start Ic blk uniq frc
  have g1 := ptg sc Hc sc.heap.objs.size (cellsFrom (sc.heap.objs.size + 1) scope.names (cloFrom X.env.cells scope.names [])) ad
  have t1 := pts sc Hc sc.heap.objs.size (cellsFrom (sc.heap.objs.size + 1) scope.names (cloFrom X.env.cells scope.names [])) ad
  have k1 := pky sc Hc sc.heap.objs.size (cellsFrom (sc.heap.objs.size + 1) scope.names (cloFrom X.env.cells scope.names [])) ad
  have v1 := pvl sc Hc sc.heap.objs.size (cellsFrom (sc.heap.objs.size + 1) scope.names (cloFrom X.env.cells scope.names [])) ad
  have nadc : ∀ b ∈ ad, Hc b = none := fun b mb => (frc b mb).1.1
  rw [← esc]
  rw [← eHc] at wS
  show codeAny _ _ (.compStart (.DictComp kx vx [⟨tg, iter, ifs, 0⟩] scope pos) 0 (.ref itA) (.ref D) (compEnvC scope (cellsFrom (sc.heap.objs.size + 1) scope.names (cloFrom X.env.cells scope.names [])) sc.heap.objs.size X.env)) (compPost (model X.prog X.w) X.A X.xe use Z (.ref D) sc.heap.objs.size) { sc with heap := pushCells (sc.heap.push { cls := .type "dict", data := .dict #[] }) scope.names }
  obtain ⟨bE, hbE⟩ : ∃ bE, bE = compEnvC scope (cellsFrom (sc.heap.objs.size + 1) scope.names (cloFrom X.env.cells scope.names [])) sc.heap.objs.size X.env := ⟨_, rfl⟩
  have atL : bE.locals = sc.heap.objs.size := by rw [hbE]; rfl
  rw [← hbE] at Id g1 t1 k1 v1 ⊢
  obtain ⟨sd, esd⟩ : ∃ sd : Shared, sd = { sc with heap := pushCells (sc.heap.push { cls := .type "dict", data := .dict #[] }) scope.names } := ⟨_, rfl⟩
  have std : stn 0 sd.heap := Trn.keep _ _ _ stc fun b _ o z => by rw [esd]; exact pushCells_keeps _ _ _ _ (Heap.get?_push_of_some _ z)
  rw [← esd] at Id ⊢
  have firm : ∀ {τ : L2.St} {F : Hp} {u : Shared}, Inv (X.blk sc Hc scope bE ad) [] τ F u → (∀ b ∈ ad, F b = none) → ∀ b ∈ ad, FpOk (X.blk sc Hc scope bE ad) [] F b := fun {τ F u} Iu nu b mb =>
    ⟨nu b mb, (Iu.ok.exf b mb).1, Iu.ok.exfs b mb, Or.inl mb, fun x c z => (Iu.ok.exf b mb).2 x c z, fun p mp => by cases (show p ∈ ([] : List (Addr × Obj)) from mp)⟩
  refine codeAny_compStart_dict ?loop (Trn.self X.A 0 _ _ _ std ?loop)
  refine compLoop_anyD (fun m u => ∃ i F, Inv (X.blk sc Hc scope bE ad) [] (wipe σ (own.map (·.2))) F u ∧ stn i u.heap ∧ (∀ b ∈ ad, F b = none) ∧ W i m F) ?_ mS ⟨0, Hc, Id, std, nadc, wS⟩
  rintro m se ⟨i, F, Ie, ste, nde, we⟩
  rcases each i m F we with ⟨ends, post⟩ | ⟨goes, Nx, falls, turn⟩
  · refine thnF (Trn.done (X.blk sc Hc scope bE ad) rfl rfl rfl cal i [] se _ F (fun _ _ => False) Ie (firm Ie nde) ste ends) fun r sf ⟨er, If⟩ => ?_
    subst er
    have Ig : Inv X pins σ F sf := Ic.call' (ch := ad) If.os If.base If.hok If.bare fun b mb =>
      let z := (frc b mb).1
      ⟨z.2.2.2.1, z.2.1, z.2.2.2.2.1, z.2.2.2.2.2⟩
    have nl : F sc.heap.objs.size = none := by rw [← atL]; exact If.free
    obtain ⟨names, ns, _⟩ := If.loc
    have ns : sf.heap.Ns bE.locals names := ns
    rw [atL] at ns
    exact fin D _ sf names F Ig post ns (Ic.fpOk (Nat.le_refl _) nl)
  · refine thnF (Trn.item (X.blk sc Hc scope bE ad) rfl rfl rfl cal i [] se _ F (fun _ _ => False) Ie (firm Ie nde) ste goes) fun r sf ⟨u, er, hf⟩ => ?_
    subst er
    refine thnF hf fun _ sg ⟨x, G, Ig, rg, yg, stg, ndg⟩ => ?_
    have Ip := Ig.pinned (firm Ig ndg) (Trn.obj _ _ stg)
    refine thnF (g1.run _ sg _ G x u _ Ip rg (turn x G yg)) fun _ sh ⟨τ, Hh, Ih, wh, rest⟩ => ?_
    refine thnF (t1.run _ sh τ Hh _ Ih rest) fun yes si ⟨Hi, Ii, qi⟩ => ?_
    have close : ∀ {u : Shared} {F2 : Hp}, Inv (X.blk sc Hc scope bE ad) ([] ++ pinsAt ad sg.heap) τ F2 u → Nx F2 → ∃ m2, m2 < m ∧ ∃ i F, Inv (X.blk sc Hc scope bE ad) [] (wipe σ (own.map (·.2))) F u ∧ stn i u.heap ∧ (∀ b ∈ ad, F b = none) ∧ W i m2 F := fun {u F2} Iu nx => by
      obtain ⟨m2, less, w2⟩ := falls F2 nx
      have pinned : ∀ b ∈ ad, ∀ o, sg.heap.get? b = some o → u.heap.get? b = some o ∧ F2 b = none := fun b mb o z => by
        have zz := Iu.pin (b, o) (List.mem_append_right _ (List.mem_append_right _ (mem_pinsAt mb z)))
        exact ⟨zz.1, zz.2.1⟩
      have same : (wipe σ (own.map (·.2))).length = τ.length := by rw [← wh, wipe_length]
      refine ⟨m2, less, i + 1, F2, (Iu.unpinned (pins := [])).weak same (fun j v z => ?_), Trn.keep _ _ _ stg fun b mb o z => (pinned b mb o z).1, fun b mb => ?_, w2⟩
      · exact (wipe_some (by rw [wh]; exact z)).1
      · exact let ⟨o, z, _⟩ := Trn.obj _ _ stg b mb; (pinned b mb o z).2
    cases yes with
    | false =>
      rw [if_neg Bool.false_ne_true] at qi ⊢
      exact close Ii qi
    | true =>
      rw [if_pos rfl] at qi ⊢
      refine thnF (k1.run _ si τ Hi _ Ii qi) fun ku sj ⟨yk, Hj, Ij, rj, qj⟩ => ?_
      refine thnF (v1.run _ sj τ Hj _ Ij qj) fun vu sk ⟨yv, Hk, Ik, rk, kvs, k, c, ek, ec, eDk, few, nx⟩ => ?_
      subst ek
      obtain rfl : ku = Value.ref c := rj
      exact put_dt (X := X.blk sc Hc scope bE ad) hu Ik eDk ec few rk fun sl Il => close Il nx
theorem pe_dct {kx vx tg iter : Expr} {ifs : List Expr} {scope : Scope} {own : List (Str × Nat)} {pos : Pos} {wi : TI} {g : TG} {tt : TT} {tk tv : TE} (cal : X.calm = true) (hu : X.A.units + 1 < cLine) (uniq : X.N.Nodup) (walk : PI X tg iter wi) (blk : BlkOk X.N X.env.scope scope own)
    (ptg : ∀ (s0 : Shared) (H0 : Hp) (C0 : Addr) (cs : List (Str × Addr)) (ad : List Addr), PG (X.blk s0 H0 scope (compEnvC scope cs C0 X.env) ad) tg g)
    (pts : ∀ (s0 : Shared) (H0 : Hp) (C0 : Addr) (cs : List (Str × Addr)) (ad : List Addr), PTs (X.blk s0 H0 scope (compEnvC scope cs C0 X.env) ad) ifs tt)
    (pky : ∀ (s0 : Shared) (H0 : Hp) (C0 : Addr) (cs : List (Str × Addr)) (ad : List Addr), PE (X.blk s0 H0 scope (compEnvC scope cs C0 X.env) ad) kx tk)
    (pvl : ∀ (s0 : Shared) (H0 : Hp) (C0 : Addr) (cs : List (Str × Addr)) (ad : List Addr), PE (X.blk s0 H0 scope (compEnvC scope cs C0 X.env) ad) vx tv)
    (fold : ∀ x, foldedSetIterable iter X.env x = pure x := by intro _; rfl) :
    PE X (.DictComp kx vx [⟨tg, iter, ifs, 0⟩] scope pos) (tDct wi g tt tk tv (own.map (·.2))) := by
  refine ⟨fun pins s σ H Q I rd => ?_⟩
  rw [arm_eval_DictComp]
  refine dct_block cal hu uniq I walk blk ptg pts pky pvl fold rd fun D C sf names F If qf ns fp => ⟨names, ns, fun h2 sb2 => ?_⟩
  exact let ⟨f0, f1, f2, f3, f4, f5⟩ := fp; ⟨.ref D, F, If.turned (t' := sf.toks) (fun b o mb z => (sb2.2 b mb).trans z) f0 f1 f3 f4 f5, rfl, qf⟩
theorem ps_setDct {i : Nat} {y : Str} {py : Pos} {kx vx tg iter : Expr} {ifs : List Expr} {scope : Scope} {own : List (Str × Nat)} {pos spos : Pos} {wi : TI} {g : TG} {tt : TT} {tk tv : TE} (cal : X.calm = true) (hu : X.A.units + 1 < cLine) (uniq : X.N.Nodup) (hy : X.N[i]? = some y)
    (loc : X.env.scope.names.lookup y = some .local) (swp : swapsWith (.DictComp kx vx [⟨tg, iter, ifs, 0⟩] scope pos) (some (.Name y py)) spos.line X.env = pure true) (walk : PI X tg iter wi) (blk : BlkOk X.N X.env.scope scope own)
    (ptg : ∀ (s0 : Shared) (H0 : Hp) (C0 : Addr) (cs : List (Str × Addr)) (ad : List Addr), PG (X.blk s0 H0 scope (compEnvC scope cs C0 X.env) ad) tg g)
    (pts : ∀ (s0 : Shared) (H0 : Hp) (C0 : Addr) (cs : List (Str × Addr)) (ad : List Addr), PTs (X.blk s0 H0 scope (compEnvC scope cs C0 X.env) ad) ifs tt)
    (pky : ∀ (s0 : Shared) (H0 : Hp) (C0 : Addr) (cs : List (Str × Addr)) (ad : List Addr), PE (X.blk s0 H0 scope (compEnvC scope cs C0 X.env) ad) kx tk)
    (pvl : ∀ (s0 : Shared) (H0 : Hp) (C0 : Addr) (cs : List (Str × Addr)) (ad : List Addr), PE (X.blk s0 H0 scope (compEnvC scope cs C0 X.env) ad) vx tv)
    (fold : ∀ x, foldedSetIterable iter X.env x = pure x := by intro _; rfl) :
    PS X (.Assign [.Name y py] (.DictComp kx vx [⟨tg, iter, ifs, 0⟩] scope pos) spos) (tAsg (tDct wi g tt tk tv (own.map (·.2))) (gName i)) := by
  refine ⟨fun pins s σ H E I rd => ?_⟩
  rw [exec_Assign_Name_used _ _ _ _ swp]
  have rd : tDct wi g tt tk tv (own.map (·.2)) σ H (fun x F => gName i x σ F E.nx) := rd
  refine wpAny_bind (wpAny_standAt (wpAny_bind ?_))
  show wpAny _ X.A (do let _ ← comprehension (.DictComp kx vx [⟨tg, iter, ifs, 0⟩] scope pos) scope X.env (firstIterPos [⟨tg, iter, ifs, 0⟩] pos) newDict false (eval iter X.env) (some (assign (.Name y py) X.env))) _ _ s
  refine wpAny_bind (thn (dct_block (Z := fun _ u => SP X pins E .next u) cal hu uniq I walk blk ptg pts pky pvl fold rd fun L C sf names F If qf ns fp => ?_) fun _ _ z => wpAny_pure (wpAny_pure z))
  show wpAny _ _ (assign (.Name y py) X.env (.ref L)) _ _ _
  obtain ⟨f0, f1, f2, f3, f4, f5⟩ := fp
  refine wpAny_assign_Name (store_ok2 (v := V.ref L) If uniq hy (.inl loc) rfl (fun sz Iz ⟨a, sb, wh⟩ => ?_) (.inr loc))
  have off : C ≠ a := wh.elim (fun z => by rw [z]; exact f1) (fun z e => f4 y a z e.symm)
  exact ⟨names, ns.sameBut sb off, fun hz sbz => ⟨_, F, Iz.turned (t' := sz.toks) (fun b o mb z => (sbz.2 b mb).trans z) f0 f1 f3 f4 f5, qf⟩⟩
theorem dct_list {K : PySem.W.Frag} {a : Addr} {xs : List V} {g : TG} {tt : TT} {tk tv : TE} {vs : List Nat} {σ : L2.St} {H1 : Hp} {D : Addr} {Qd : Hp → Prop} (Pv : Nat → Hp → Prop) (h0 : Pv 0 (upd H1 D (.dT []))) (keep : ∀ i H, i ≤ xs.length → Pv i H → SqL K H a xs)
    (turn : ∀ i x H, xs[i]? = some x → Pv i H → g x (wipe σ vs) H fun σ2 H2 => wipe σ2 vs = wipe σ vs ∧ tt σ2 H2 fun b H3 =>
      if b = true then tk σ2 H3 fun y H4 => tv σ2 H4 fun z H5 => ∃ kvs k c, y = V.ref c ∧ H5 c = some (.tup (k.map kV)) ∧ H5 D = some (.dT kvs) ∧ kvs.length < sizeLine ∧ Pv (i + 1) (upd H5 D (.dT (putK kvs k z))) else Pv (i + 1) H3) (last : ∀ H, Pv xs.length H → Qd H) :
    ∃ W : Nat → Nat → Hp → Prop, (∃ m, W 0 m (upd H1 D (.dT []))) ∧ ∀ i m H, W i m H →
      ((Itl K a).stop i H ∧ Qd H) ∨ ((Itl K a).go i H ∧ ∃ Nx : Hp → Prop, (∀ H', Nx H' → ∃ m', m' < m ∧ W (i + 1) m' H') ∧ ∀ x H', (Itl K a).yld i H x H' → g x (wipe σ vs) H' fun σ2 H2 => wipe σ2 vs = wipe σ vs ∧ tt σ2 H2 fun b H3 =>
        if b = true then tk σ2 H3 fun y H4 => tv σ2 H4 fun z H5 => ∃ kvs k c, y = V.ref c ∧ H5 c = some (.tup (k.map kV)) ∧ H5 D = some (.dT kvs) ∧ kvs.length < sizeLine ∧ Nx (upd H5 D (.dT (putK kvs k z))) else Nx H3) := by
  refine ⟨fun i m F => i + m = xs.length ∧ Pv i F, ⟨xs.length, Nat.zero_add _, h0⟩, fun i m F ⟨im, pv⟩ => ?_⟩
  have lst := keep i F (by omega) pv
  cases m with
  | zero =>
    obtain rfl : i = xs.length := by omega
    exact .inl ⟨⟨xs, lst, Nat.le_refl _⟩, last F pv⟩
  | succ m =>
    have lt : i < xs.length := by omega
    refine .inr ⟨⟨xs, xs[i], lst, List.getElem?_eq_getElem lt⟩, Pv (i + 1), fun F' pv' => ⟨m, Nat.lt_succ_self m, by omega, pv'⟩, fun x F' yl => ?_⟩
    obtain ⟨rfl, same⟩ := yl
    exact turn i x _ (same xs lst) pv
theorem dct_keysT {a : Addr} {o : Obj} {kvs : List (List Key × V)} {g : TG} {tt : TT} {tk tv : TE} {vs : List Nat} {σ : L2.St} {H1 : Hp} {D : Addr} {Qd : Hp → Prop} (Pv : Nat → Hp → Prop) (h0 : Pv 0 (upd H1 D (.dT []))) (keep : ∀ i H, i ≤ kvs.length → Pv i H → H a = some (.frz o (.dT kvs)))
    (turn : ∀ i k v q H, kvs[i]? = some (k, v) → Pv i H → H q = some (.tup (k.map kV)) → g (.ref q) (wipe σ vs) H fun σ2 H2 => wipe σ2 vs = wipe σ vs ∧ tt σ2 H2 fun b H3 =>
      if b = true then tk σ2 H3 fun y H4 => tv σ2 H4 fun z H5 => ∃ kvs k c, y = V.ref c ∧ H5 c = some (.tup (k.map kV)) ∧ H5 D = some (.dT kvs) ∧ kvs.length < sizeLine ∧ Pv (i + 1) (upd H5 D (.dT (putK kvs k z))) else Pv (i + 1) H3) (last : ∀ H, Pv kvs.length H → Qd H) :
    ∃ W : Nat → Nat → Hp → Prop, (∃ m, W 0 m (upd H1 D (.dT []))) ∧ ∀ i m H, W i m H →
      ((Itkt a o kvs).stop i H ∧ Qd H) ∨ ((Itkt a o kvs).go i H ∧ ∃ Nx : Hp → Prop, (∀ H', Nx H' → ∃ m', m' < m ∧ W (i + 1) m' H') ∧ ∀ x H', (Itkt a o kvs).yld i H x H' → g x (wipe σ vs) H' fun σ2 H2 => wipe σ2 vs = wipe σ vs ∧ tt σ2 H2 fun b H3 =>
        if b = true then tk σ2 H3 fun y H4 => tv σ2 H4 fun z H5 => ∃ kvs k c, y = V.ref c ∧ H5 c = some (.tup (k.map kV)) ∧ H5 D = some (.dT kvs) ∧ kvs.length < sizeLine ∧ Nx (upd H5 D (.dT (putK kvs k z))) else Nx H3) := by
  refine ⟨fun i m F => i + m = kvs.length ∧ Pv i F, ⟨kvs.length, Nat.zero_add _, h0⟩, fun i m F ⟨im, pv⟩ => ?_⟩
  have lst := keep i F (by omega) pv
  cases m with
  | zero =>
    obtain rfl : i = kvs.length := by omega
    exact .inl ⟨⟨lst, Nat.le_refl _⟩, last F pv⟩
  | succ m =>
    have lt : i < kvs.length := by omega
    refine .inr ⟨⟨lst, lt⟩, Pv (i + 1), fun F' pv' => ⟨m, Nat.lt_succ_self m, by omega, pv'⟩, fun x F' yl => ?_⟩
    obtain ⟨rfl, k, v, q, hk, rfl, hq⟩ := yl
    exact turn i k v q F' hk pv hq
end

def sp_prod (K : PySem.W.Frag) : Sp := fun vs H Q _ => ∃ (d : Addr) (v : V) (dom : List (Int × Int)) (f : Int × Int → Int × Int) (p q : Int × Int), vs = [.ref d, v] ∧ FD K H d dom f ∧ TwoAt K H v p q ∧ p ∈ dom ∧ q ∈ dom ∧ Frac 2000 (f p) ∧ Frac 2000 (f q) ∧
  ∀ H' r, Same H H' → PrAt K H' r (mulV (f p) (f q)) → Q r H'
def sp_ratio (K : PySem.W.Frag) (C : Addr) : Sp := fun vs H Q E => ∃ (n : Int) (c d : Addr) (xs : List V) (l dom : List (Int × Int)) (f : Int × Int → Int × Int) (a b : Int), vs = [.int n, .ref c, .ref d, .int a, .int b] ∧ 3 ≤ n ∧ n ≤ 12 ∧ H c = some (.lst xs) ∧ PrL K H xs l ∧ l.length ≤ 100 ∧ IsCut n l ∧
  FD K H d dom f ∧ (∀ p ∈ tiesS n l, p ∈ dom ∧ Frac 2000 (f p)) ∧ (pr a b ∉ l → ∀ H', Same H H' → E (.ref C) none H') ∧
  (pr a b ∈ l → ∀ H' v, Same H H' → PrAt K H' v (rateL n l f (pr a b)) → Q v H')
/-- the values of a row of pairs, as a function -/
def sp_ratios (K : PySem.W.Frag) : Sp := fun vs H Q _ => ∃ (n : Int) (c d : Addr) (xs : List V) (l dom : List (Int × Int)) (f : Int × Int → Int × Int), vs = [.int n, .ref c, .ref d] ∧ 3 ≤ n ∧ n ≤ 12 ∧ H c = some (.lst xs) ∧ PrL K H xs l ∧ l.length ≤ 100 ∧ IsCut n l ∧
  FD K H d dom f ∧ (∀ p ∈ tiesS n l, p ∈ dom ∧ Frac 2000 (f p)) ∧ ∀ H' D, Same H H' → H D = none → FD K H' D l (rateL n l f) → Q (.ref D) H'
/-! ### the law's ratios -/
def sp_lring (K : PySem.W.Frag) : Sp := fun vs H Q _ => ∃ (n : Int) (c : Addr) (v : V) (xs : List V) (l : List (Int × Int)) (p : Int × Int) (x y : Int), vs = [.int n, .ref c, v] ∧ 3 ≤ n ∧ n ≤ 12 ∧ H c = some (.lst xs) ∧ PrL K H xs l ∧ l.length ≤ 100 ∧ PrAt K H v p ∧ Turns n l p x y ∧
  ∀ H' q (ws : List Int), Same H H' → H' q = some (.lst (ws.map V.int)) → ws.Perm [p.1, p.2, x, y] → ws.Pairwise (· ≤ ·) → Q (.ref q) H'
theorem sort4 {ws zs : List Int} (h : ws.Perm zs) (hw : ws.Pairwise (· ≤ ·)) (hz : zs.Pairwise (· ≤ ·)) : ws = zs :=
  List.Perm.eq_of_pairwise (le := (· ≤ ·)) (fun _ _ _ _ => Int.le_antisymm) hw hz h
def sp_lratio (K : PySem.W.Frag) : Sp := fun vs H Q _ => ∃ (n : Int) (c d : Addr) (v : V) (xs : List V) (l dom : List (Int × Int)) (f : Int × Int → Int × Int) (p : Int × Int), vs = [.int n, .ref c, .ref d, v] ∧ 3 ≤ n ∧ n ≤ 12 ∧ H c = some (.lst xs) ∧ PrL K H xs l ∧ l.length ≤ 100 ∧ IsCut n l ∧ PrAt K H v p ∧ p ∈ l ∧
  FD K H d dom f ∧ (∀ p ∈ tiesS n l, p ∈ dom ∧ Frac 2000 (f p)) ∧ ∀ H' v, Same H H' → PrAt K H' v (rateL n l f p) → Q v H'
def sp_lratios (K : PySem.W.Frag) : Sp := fun vs H Q _ => ∃ (n : Int) (c d : Addr) (xs : List V) (l dom : List (Int × Int)) (f : Int × Int → Int × Int), vs = [.int n, .ref c, .ref d] ∧ 3 ≤ n ∧ n ≤ 12 ∧ H c = some (.lst xs) ∧ PrL K H xs l ∧ l.length ≤ 100 ∧ IsCut n l ∧
  FD K H d dom f ∧ (∀ p ∈ tiesS n l, p ∈ dom ∧ Frac 2000 (f p)) ∧ ∀ H' D, Same H H' → H D = none → FD K H' D l (rateL n l f) → Q (.ref D) H'
theorem side_rope {n : Int} {l : List (Int × Int)} (hC : IsCut n l) {u : Int × Int} (hu : u ∈ sidesL n) (hv : u ∈ l) : False := by
  obtain ⟨T, _, hT⟩ := hC.ex
  have hw := ((hT u.1 u.2).mp hv).2
  unfold sidesL at hu
  rcases List.mem_append.mp hu with z | z
  · obtain ⟨k, _, ek⟩ := List.mem_map.mp z
    rw [← ek] at hw
    have := hw.1
    omega
  · rw [List.mem_singleton.mp z] at hw
    exact hw.2 ⟨rfl, rfl⟩
theorem ties_nodup {n : Int} {l : List (Int × Int)} (hC : IsCut n l) : (tiesS n l).Nodup := by
  have h3 := hC.three
  refine sort2_nodup (List.nodup_append.mpr ⟨?_, hC.nd, ?_⟩)
  · unfold sidesL
    refine List.nodup_append.mpr ⟨?_, by simp, ?_⟩
    · have hr : (rng (n - 1)).Nodup := (rng_sorted _).imp (fun h => by omega)
      exact List.pairwise_map.mpr (hr.imp fun h e => h (Prod.mk.inj e).1)
    · intro u hu v hv e
      obtain ⟨k, _, ek⟩ := List.mem_map.mp hu
      rw [List.mem_singleton.mp hv] at e
      rw [← ek] at e
      have := Prod.mk.inj e
      omega
  · intro u hu v hv e
    subst e
    exact side_rope hC hu hv
theorem ties_small {n : Int} {l : List (Int × Int)} (hC : IsCut n l) (h12 : n ≤ 12) : ∀ p ∈ tiesS n l, smallP p := fun p hp => by
  have h3 := hC.three
  rcases List.mem_append.mp (sort2_mem.mp hp) with z | z
  · unfold sidesL at z
    rcases List.mem_append.mp z with z | z
    · obtain ⟨k, hk, ek⟩ := List.mem_map.mp z
      have := mem_rng.mp hk
      rw [← ek]
      exact ⟨by show 0 ≤ k; omega, by show k < 13; omega, by show 0 ≤ k + 1; omega, by show k + 1 < 13; omega⟩
    · rw [List.mem_singleton.mp z]
      exact ⟨by show (0 : Int) ≤ 0; omega, by show (0 : Int) < 13; omega, by show 0 ≤ n - 1; omega, by show n - 1 < 13; omega⟩
  · have := cut_lt hC z
    exact ⟨this.1, by omega, by omega, by omega⟩
theorem ties_count {n : Int} {l : List (Int × Int)} (hC : IsCut n l) : (tiesS n l).length = n.toNat + l.length := by
  unfold tiesS
  rw [sort2_len, List.length_append, sidesL_len hC.three]

theorem sw_trueD {kx vx : Expr} {gs : List Comprehension} {scope : Scope} {pos py : Pos} {y : Str} {l : Nat} {env : PySem.Env} (hk : env.scope.kind = .function) (hy : env.scope.names.lookup y = some .local) (hl : (py.line == pos.line) = true)
    (ha : (scope.names.any fun (n, k) => n == y && (k == .local || k == .cell)) = false) : swapsWith (.DictComp kx vx gs scope pos) (some (.Name y py)) l env = pure true := by
  have b1 : env.blockKind = .function := by unfold Env.blockKind; rw [hk]; rfl
  have b2 : env.kindOf y = some .local := hy
  unfold swapsWith
  simp only [b1, b2, ha, Expr.pos, hl]
  rfl

/-! ### the length across a rope -/
/-- of the pair q, by the rope p that it crosses -/
def acrV (f : Int × Int → Int × Int) (p q : Int × Int) : Int × Int := divV (addV (mulV (f (pr q.1 p.1)) (f (pr q.2 p.2))) (mulV (f (pr q.1 p.2)) (f (pr q.2 p.1)))) (f p)
theorem div_back {a b : Nat} {S z : Int × Int} (hS : Frac a S) (hz : Frac b z) : divV S (divV S z) = z := by
  have hp1 := Int.mul_pos hS.low.pos hz.top
  obtain ⟨L1, e1, _, _⟩ := lowI_ok (t := S.1 * z.2) (b := S.2 * z.1) (by omega)
  have fw := divV_frac hS hz
  have ew : divV S z = lowI (S.1 * z.2) (S.2 * z.1) := rfl
  rw [← ew] at e1
  generalize divV S z = w at *
  have hp2 := Int.mul_pos hS.low.pos fw.top
  obtain ⟨L2, e2, _, _⟩ := lowI_ok (t := S.1 * w.2) (b := S.2 * w.1) (by omega)
  have er : divV S w = lowI (S.1 * w.2) (S.2 * w.1) := rfl
  rw [← er] at L2 e2
  generalize divV S w = r at *
  have key : (S.2 * w.1) * (r.1 * z.2) = (S.2 * w.1) * (z.1 * r.2) := by
    have h1 : (S.2 * w.1) * (r.1 * z.2) = (r.1 * (S.2 * w.1)) * z.2 := by ac_rfl
    have h2 : (r.2 * (S.1 * w.2)) * z.2 = r.2 * (w.2 * (S.1 * z.2)) := by ac_rfl
    have h3 : (S.2 * w.1) * (z.1 * r.2) = r.2 * (w.1 * (S.2 * z.1)) := by ac_rfl
    rw [h1, e2, h2, ← e1, h3]
  have := low_same L2 hz.low (Int.eq_of_mul_eq_mul_left (by omega) key)
  exact Prod.ext this.1 this.2
theorem acrV_frac {b : Nat} {f : Int × Int → Int × Int} {p q : Int × Int} (h1 : Frac b (f (pr q.1 p.1))) (h2 : Frac b (f (pr q.2 p.2))) (h3 : Frac b (f (pr q.1 p.2))) (h4 : Frac b (f (pr q.2 p.1))) (h5 : Frac b (f p)) : Frac (b + b + (b + b) + 1 + b) (acrV f p q) :=
  divV_frac (addV_frac (mulV_frac h1 h2) (mulV_frac h3 h4)) h5
/-- and back again -/
theorem acr_back {b : Nat} {f g : Int × Int → Int × Int} {p q : Int × Int} (h1 : Frac b (f (pr q.1 p.1))) (h2 : Frac b (f (pr q.2 p.2))) (h3 : Frac b (f (pr q.1 p.2))) (h4 : Frac b (f (pr q.2 p.1))) (h5 : Frac b (f p))
    (g1 : g (pr q.1 p.1) = f (pr q.1 p.1)) (g2 : g (pr q.2 p.2) = f (pr q.2 p.2)) (g3 : g (pr q.1 p.2) = f (pr q.1 p.2)) (g4 : g (pr q.2 p.1) = f (pr q.2 p.1)) (gq : g q = acrV f p q) : acrV g q p = f p := by
  have e : addV (mulV (g (pr p.1 q.1)) (g (pr p.2 q.2))) (mulV (g (pr p.1 q.2)) (g (pr p.2 q.1))) = addV (mulV (f (pr q.1 p.1)) (f (pr q.2 p.2))) (mulV (f (pr q.1 p.2)) (f (pr q.2 p.1))) := by
    rw [pr_comm p.1 q.1, pr_comm p.2 q.2, pr_comm p.1 q.2, pr_comm p.2 q.1, g1, g2, g3, g4, mulV_comm (f (pr q.2 p.1))]
  have e2 : acrV g q p = divV (addV (mulV (g (pr p.1 q.1)) (g (pr p.2 q.2))) (mulV (g (pr p.1 q.2)) (g (pr p.2 q.1)))) (g q) := rfl
  rw [e2, e, gq]
  exact div_back (addV_frac (mulV_frac h1 h2) (mulV_frac h3 h4)) h5

/-! ### fractions as rationals -/
def vq (x : Int × Int) : Rat := (x.1 : Rat) / (x.2 : Rat)
theorem cast_ne {b : Int} (h : b ≠ 0) : (b : Rat) ≠ 0 := fun e => h (Rat.intCast_inj.mp (by rw [e]; rfl))
theorem vq_low {t b : Int} (h : b ≠ 0) : vq (lowI t b) = (t : Rat) / (b : Rat) := by
  obtain ⟨L, e, _, _⟩ := lowI_ok (t := t) h
  have hp := L.pos
  have h2 : ((lowI t b).2 : Rat) ≠ 0 := cast_ne (by omega)
  have hb := cast_ne h
  have e' : ((lowI t b).1 : Rat) * (b : Rat) = ((lowI t b).2 : Rat) * (t : Rat) := by
    rw [← Rat.intCast_mul, ← Rat.intCast_mul, e]
  unfold vq
  grind
theorem vq_inj {x y : Int × Int} (hx : Low x.1 x.2) (hy : Low y.1 y.2) (h : vq x = vq y) : x = y := by
  have h1 : (x.2 : Rat) ≠ 0 := cast_ne (by have := hx.pos; omega)
  have h2 : (y.2 : Rat) ≠ 0 := cast_ne (by have := hy.pos; omega)
  have e : (x.1 : Rat) * (y.2 : Rat) = (y.1 : Rat) * (x.2 : Rat) := by
    unfold vq at h
    grind
  rw [← Rat.intCast_mul, ← Rat.intCast_mul] at e
  have := low_same hx hy (Rat.intCast_inj.mp e)
  exact Prod.ext this.1 this.2
theorem Frac.n1 {b : Nat} {x : Int × Int} (h : Frac b x) : (x.1 : Rat) ≠ 0 := cast_ne (by have := h.top; omega)
theorem Frac.n2 {b : Nat} {x : Int × Int} (h : Frac b x) : (x.2 : Rat) ≠ 0 := cast_ne (by have := h.low.pos; omega)
theorem vq_mul {a b : Nat} {x y : Int × Int} (hx : Frac a x) (hy : Frac b y) : vq (mulV x y) = vq x * vq y := by
  have h1 := hx.n2
  have h2 := hy.n2
  unfold mulV
  rw [vq_low (by have := Int.mul_pos hx.low.pos hy.low.pos; omega), Rat.intCast_mul, Rat.intCast_mul]
  unfold vq
  grind
theorem vq_div {a b : Nat} {x y : Int × Int} (hx : Frac a x) (hy : Frac b y) : vq (divV x y) = vq x / vq y := by
  have h1 := hx.n2
  have h2 := hy.n2
  have h3 := hy.n1
  unfold divV
  rw [vq_low (by have := Int.mul_pos hx.low.pos hy.top; omega), Rat.intCast_mul, Rat.intCast_mul]
  unfold vq
  grind
theorem vq_add {a b : Nat} {x y : Int × Int} (hx : Frac a x) (hy : Frac b y) : vq (addV x y) = vq x + vq y := by
  have h1 := hx.n2
  have h2 := hy.n2
  unfold addV
  rw [vq_low (by have := Int.mul_pos hx.low.pos hy.low.pos; omega), Rat.intCast_add, Rat.intCast_mul, Rat.intCast_mul, Rat.intCast_mul]
  unfold vq
  grind
theorem vq_ne {b : Nat} {x : Int × Int} (h : Frac b x) : vq x ≠ 0 := by
  have h1 := h.n1
  have h2 := h.n2
  unfold vq
  grind
theorem one_frac : Frac 1 (1, 1) := ⟨by decide, ⟨by decide, by decide⟩, by decide, by decide⟩
theorem vq_one : vq (1, 1) = 1 := by
  unfold vq
  show ((1 : Int) : Rat) / ((1 : Int) : Rat) = 1
  rw [Rat.intCast_one]
  grind

/-! ### the ratios behind a turning -/
theorem tie_bd {n : Int} {l : List (Int × Int)} (hC : IsCut n l) {p : Int × Int} (hp : p ∈ tiesS n l) : 0 ≤ p.1 ∧ p.1 < p.2 ∧ p.2 < n := by
  have h3 := hC.three
  rcases List.mem_append.mp (sort2_mem.mp hp) with z | z
  · unfold sidesL at z
    rcases List.mem_append.mp z with z | z
    · obtain ⟨k, hk, ek⟩ := List.mem_map.mp z
      have := mem_rng.mp hk
      rw [← ek]
      exact ⟨by show 0 ≤ k; omega, by show k < k + 1; omega, by show k + 1 < n; omega⟩
    · rw [List.mem_singleton.mp z]
      exact ⟨by show (0 : Int) ≤ 0; omega, by show (0 : Int) < n - 1; omega, by show n - 1 < n; omega⟩
  · have := cut_lt hC z
    exact ⟨this.1, by omega, this.2.2⟩
theorem bes_of {n : Int} {l : List (Int × Int)} (hC : IsCut n l) {a b s : Int} (h1 : pr a s ∈ tiesS n l) (h2 : pr b s ∈ tiesS n l) : s ∈ besL (tiesS n l) n a b := by
  have := tie_bd hC h1
  unfold pr at this
  unfold besL
  refine List.mem_filter.mpr ⟨mem_rng.mpr (by simp only at this; omega), ?_⟩
  rw [decide_eq_true h1, decide_eq_true h2]
  rfl
theorem rate_in {n : Int} {l : List (Int × Int)} {f : Int × Int → Int × Int} (hC : IsCut n l) {r : Int × Int} (hr : r ∈ l) {s w : Int} (s1 : pr r.1 s ∈ tiesS n l) (s2 : pr r.2 s ∈ tiesS n l) (si : r.1 < s ∧ s < r.2)
    (w1 : pr r.1 w ∈ tiesS n l) (w2 : pr r.2 w ∈ tiesS n l) (wo : w < r.1 ∨ r.2 < w) : rateL n l f r = rateV f r s w := by
  obtain ⟨x, y, hT⟩ := turns hC hr
  rw [rateL_at hT]
  have hs := bes_of hC s1 s2
  have hw := bes_of hC w1 w2
  rw [hT.bes] at hs hw
  have hc := hT.crs
  simp only [List.mem_cons, List.not_mem_nil, or_false] at hs hw
  unfold mOf zOf
  by_cases g : r.1 < x ∧ x < r.2
  · rw [if_pos g, if_pos g, show x = s by omega, show y = w by omega]
  · rw [if_neg g, if_neg g, show y = s by omega, show x = w by omega]
/-- what stands at a tie round the rope -/
def Lq (f : Int × Int → Int × Int) (a b : Int) : Rat := vq (f (pr a b))
theorem Lq_comm (f : Int × Int → Int × Int) (a b : Int) : Lq f a b = Lq f b a := by unfold Lq; rw [pr_comm]
theorem rateV_q {b : Nat} {f : Int × Int → Int × Int} {p : Int × Int} {m z : Int} (h1 : Frac b (f (pr p.1 m))) (h2 : Frac b (f (pr p.2 z))) (h3 : Frac b (f (pr m p.2))) (h4 : Frac b (f (pr z p.1))) :
    vq (rateV f p m z) = (Lq f p.1 m * Lq f p.2 z) / (Lq f m p.2 * Lq f z p.1) ∧ Frac (b + b + (b + b)) (rateV f p m z) := by
  refine ⟨?_, divV_frac (mulV_frac h1 h2) (mulV_frac h3 h4)⟩
  unfold rateV Lq
  rw [vq_div (mulV_frac h1 h2) (mulV_frac h3 h4), vq_mul h1 h2, vq_mul h3 h4]
theorem pr_or (a b : Int) : pr a b = (a, b) ∨ pr a b = (b, a) := by
  unfold pr
  by_cases h : a ≤ b
  · exact .inl (by rw [Int.min_eq_left h, Int.max_eq_right h])
  · exact .inr (by rw [Int.min_eq_right (by omega), Int.max_eq_left (by omega)])
theorem ne_pr {a b : Int} {p : Int × Int} (h : ¬ (min a b = p.1 ∧ max a b = p.2)) : pr a b ≠ p := fun e => h ⟨congrArg Prod.fst e, congrArg Prod.snd e⟩
theorem pr_self {p : Int × Int} (h : p.1 < p.2) : pr p.1 p.2 = p := pr_of_lt h
theorem mne {a b : Rat} (h : a ≠ 0) (k : b ≠ 0) : a * b ≠ 0 := fun e => by
  rcases Rat.mul_eq_zero.mp e with z | z
  · exact h z
  · exact k z

/-! ### posts stood in the plane: each length of a tie is the spread of its posts -/
abbrev V2 := Rat × Rat
def det (u v : V2) : Rat := u.1 * v.2 - u.2 * v.1
theorem rpos_ne {a : Rat} (h : 0 < a) : a ≠ 0 := fun e => by rw [e] at h; exact absurd h (by decide)
theorem rdiv_pos {a b : Rat} (h : 0 < a) (k : 0 < b) : 0 < a / b := by
  rw [Rat.div_def]
  exact Rat.mul_pos h (Rat.inv_pos.mpr k)
def mid (L : Int → Int → Rat) (lo m hi : Int) (u v : V2) : V2 := ((L m hi / L lo hi) * u.1 + (L lo m / L lo hi) * v.1, (L m hi / L lo hi) * u.2 + (L lo m / L lo hi) * v.2)
def vec (L : Int → Int → Rat) : Int → Int → Tr → V2 → V2 → Int → V2
  | lo, _, .lf, u, v, z => if z = lo then u else v
  | lo, hi, .nd m l r, u, v, z => if z ≤ m then vec L lo m l u (mid L lo m hi u v) z else vec L m hi r (mid L lo m hi u v) v z
section
variable {S : Int → Prop} {L : Int → Int → Rat}
theorem vec_lo : ∀ {T : Tr} {lo hi : Int} {u v : V2}, TOk S lo hi T → vec L lo hi T u v lo = u
  | .lf, _, _, _, _, _ => if_pos rfl
  | .nd m l r, lo, hi, u, v, ⟨_, h1, h2⟩ => by
    have := h1.lt
    show (if lo ≤ m then _ else _) = u
    rw [if_pos (by omega)]
    exact vec_lo h1
theorem vec_hi : ∀ {T : Tr} {lo hi : Int} {u v : V2}, TOk S lo hi T → vec L lo hi T u v hi = v
  | .lf, lo, hi, _, _, h => if_neg (by have := h.1; omega)
  | .nd m l r, lo, hi, u, v, ⟨_, h1, h2⟩ => by
    have := h2.lt
    show (if hi ≤ m then _ else _) = v
    rw [if_neg (by omega)]
    exact vec_hi h2
theorem vec_left {m : Int} {l r : Tr} {lo hi z : Int} {u v : V2} (h : z ≤ m) : vec L lo hi (.nd m l r) u v z = vec L lo m l u (mid L lo m hi u v) z := if_pos h
theorem vec_right {m : Int} {l r : Tr} {lo hi z : Int} {u v : V2} (h1 : TOk S lo m l) (h2 : TOk S m hi r) (h : m ≤ z) : vec L lo hi (.nd m l r) u v z = vec L m hi r (mid L lo m hi u v) v z := by
  by_cases e : z = m
  · subst e
    rw [vec_left (Int.le_refl _), vec_hi h1, vec_lo h2]
  · exact if_neg (by omega)
theorem det_left {lo m hi : Int} {u v : V2} (h : det u v = L lo hi) (n : L lo hi ≠ 0) : det u (mid L lo m hi u v) = L lo m := by
  unfold det mid at *
  simp only at *
  grind
theorem det_right {lo m hi : Int} {u v : V2} (h : det u v = L lo hi) (n : L lo hi ≠ 0) : det (mid L lo m hi u v) v = L m hi := by
  unfold det mid at *
  simp only at *
  grind
theorem vec_tie : ∀ {T : Tr} {lo hi : Int} {u v : V2}, TOk S lo hi T → (∀ a b, tie lo hi T a b → L a b ≠ 0) → det u v = L lo hi → ∀ a b, tie lo hi T a b → det (vec L lo hi T u v a) (vec L lo hi T u v b) = L a b
  | .lf, lo, hi, u, v, h, n, hd, a, b, t => by
    obtain ⟨e1, e2⟩ := t
    subst e1; subst e2
    rw [vec_lo h, vec_hi h, hd]
  | .nd m l r, lo, hi, u, v, h, n, hd, a, b, t => by
    have nz := n _ _ (tie_root (T := .nd m l r))
    obtain ⟨_, h1, h2⟩ := id h
    rcases t with ⟨e1, e2⟩ | t | t
    · subst e1; subst e2
      rw [vec_lo h, vec_hi h, hd]
    · have q := tie_in h1 t
      rw [vec_left (by omega), vec_left (by omega)]
      exact vec_tie h1 (fun a b t => n a b (.inr (.inl t))) (det_left hd nz) a b t
    · have q := tie_in h2 t
      rw [vec_right h1 h2 (by omega), vec_right h1 h2 (by omega)]
      exact vec_tie h2 (fun a b t => n a b (.inr (.inr t))) (det_right hd nz) a b t
def comb (p q : Rat) (u v : V2) : V2 := (p * u.1 + q * v.1, p * u.2 + q * v.2)
theorem vec_cone : ∀ {T : Tr} {lo hi : Int} {u v : V2}, TOk S lo hi T → (∀ a b, tie lo hi T a b → 0 < L a b) → ∀ z, S z → lo ≤ z → z ≤ hi → ∃ p q : Rat, 0 ≤ p ∧ 0 ≤ q ∧ vec L lo hi T u v z = comb p q u v ∧ (lo < z → 0 < q) ∧ (z < hi → 0 < p)
  | .lf, lo, hi, u, v, h, n, z, hz, h1, h2 => by
    by_cases e : z = lo
    · subst e
      refine ⟨1, 0, by decide, by decide, ?_, fun k => absurd k (Int.lt_irrefl _), fun _ => by decide⟩
      rw [vec_lo h]
      unfold comb
      refine Prod.ext ?_ ?_ <;> simp only <;> grind
    · have e2 : z = hi := by have := h.2 z hz; omega
      subst e2
      refine ⟨0, 1, by decide, by decide, ?_, fun _ => by decide, fun k => absurd k (Int.lt_irrefl _)⟩
      rw [vec_hi h]
      unfold comb
      refine Prod.ext ?_ ?_ <;> simp only <;> grind
  | .nd m l r, lo, hi, u, v, h, n, z, hz, g1, g2 => by
    have nz := n _ _ (tie_root (T := .nd m l r))
    obtain ⟨_, h1, h2⟩ := id h
    have l1 := h1.lt
    have l2 := h2.lt
    have a1 := rdiv_pos (n m hi (.inr (.inr tie_root))) nz
    have b1 := rdiv_pos (n lo m (.inr (.inl tie_root))) nz
    by_cases e : z ≤ m
    · obtain ⟨p, q, hp, hq, hv, k1, k2⟩ := vec_cone (u := u) (v := mid L lo m hi u v) h1 (fun a b t => n a b (.inr (.inl t))) z hz g1 e
      have x1 := Rat.mul_nonneg hq (Rat.le_of_lt a1)
      have x2 := Rat.mul_nonneg hq (Rat.le_of_lt b1)
      refine ⟨p + q * (L m hi / L lo hi), q * (L lo m / L lo hi), by grind, x2, ?_, fun k => Rat.mul_pos (k1 k) b1, fun _ => ?_⟩
      · rw [vec_left e, hv]
        unfold comb mid
        refine Prod.ext ?_ ?_ <;> simp only <;> grind
      · by_cases e2 : z < m
        · have := k2 e2
          grind
        · have := Rat.mul_pos (k1 (by omega)) a1
          grind
    · obtain ⟨p, q, hp, hq, hv, k1, k2⟩ := vec_cone (u := mid L lo m hi u v) (v := v) h2 (fun a b t => n a b (.inr (.inr t))) z hz (by omega) g2
      have x1 := Rat.mul_nonneg hp (Rat.le_of_lt a1)
      have x2 := Rat.mul_nonneg hp (Rat.le_of_lt b1)
      refine ⟨p * (L m hi / L lo hi), p * (L lo m / L lo hi) + q, x1, by grind, ?_, fun _ => ?_, fun k => Rat.mul_pos (k2 k) a1⟩
      · rw [vec_right h1 h2 (by omega), hv]
        unfold comb mid
        refine Prod.ext ?_ ?_ <;> simp only <;> grind
      · have := k1 (by omega)
        grind
theorem vec_pos : ∀ {T : Tr} {lo hi : Int} {u v : V2}, TOk S lo hi T → (∀ a b, tie lo hi T a b → 0 < L a b) → det u v = L lo hi → ∀ i j, S i → S j → lo ≤ i → i < j → j ≤ hi → 0 < det (vec L lo hi T u v i) (vec L lo hi T u v j)
  | .lf, lo, hi, u, v, h, n, hd, i, j, si, sj, h1, h2, h3 => by
    have e1 : i = lo := by have := h.2 i si; omega
    have e2 : j = hi := by have := h.2 j sj; omega
    subst e1; subst e2
    rw [vec_lo h, vec_hi h, hd]
    exact n _ _ tie_root
  | .nd m l r, lo, hi, u, v, h, n, hd, i, j, si, sj, g1, g2, g3 => by
    have nz := n _ _ (tie_root (T := .nd m l r))
    obtain ⟨_, h1, h2⟩ := id h
    have n1 : ∀ a b, tie lo m l a b → 0 < L a b := fun a b t => n a b (.inr (.inl t))
    have n2 : ∀ a b, tie m hi r a b → 0 < L a b := fun a b t => n a b (.inr (.inr t))
    have dl := det_left (m := m) hd (rpos_ne nz)
    have dr := det_right (m := m) hd (rpos_ne nz)
    by_cases e1 : j ≤ m
    · rw [vec_left (by omega), vec_left e1]
      exact vec_pos h1 n1 dl i j si sj g1 g2 e1
    by_cases e2 : m ≤ i
    · rw [vec_right h1 h2 e2, vec_right h1 h2 (by omega)]
      exact vec_pos h2 n2 dr i j si sj e2 g2 g3
    rw [vec_left (by omega), vec_right h1 h2 (by omega)]
    obtain ⟨p, q, hp, hq, hv, k1, k2⟩ := vec_cone (u := u) (v := mid L lo m hi u v) h1 n1 i si g1 (by omega)
    obtain ⟨p', q', hp', hq', hv', k1', k2'⟩ := vec_cone (u := mid L lo m hi u v) (v := v) h2 n2 j sj (by omega) g3
    have c1 := n1 _ _ tie_root
    have c2 := n2 _ _ tie_root
    rw [← dl] at c1
    rw [← dr] at c2
    rw [← hd] at nz
    have x1 := Rat.mul_pos (Rat.mul_pos (k2 (by omega)) (k1' (by omega))) nz
    have x2 := Rat.mul_nonneg (Rat.mul_nonneg hp hp') (Rat.le_of_lt c1)
    have x3 := Rat.mul_nonneg (Rat.mul_nonneg hq hq') (Rat.le_of_lt c2)
    rw [hv, hv']
    generalize mid L lo m hi u v = w at *
    have e : det (comb p q u w) (comb p' q' w v) = p * q' * det u v + (p * p' * det u w + q * q' * det w v) := by
      unfold det comb
      simp only
      grind
    rw [e]
    grind
end
/-- the rule of four, of any four posts -/
theorem pluecker (a b c d : V2) : det a c * det b d = det a b * det c d + det a d * det b c := by
  unfold det
  grind

theorem F2.qpos {t b : Nat} {x : Int × Int} (h : F2 t b x) : 0 < vq x := by
  unfold vq
  exact rdiv_pos (Rat.intCast_pos.mpr h.top) (Rat.intCast_pos.mpr h.low.pos)
/-! ### how large the places get -/
/-- v's places times d are whole -/
def Whl (d : Int) (v : V2) : Prop := ∃ x y : Int, v.1 * (d : Rat) = x ∧ v.2 * (d : Rat) = y
def Upto (M : Rat) (v : V2) : Prop := 0 ≤ v.1 ∧ v.1 ≤ M ∧ 0 ≤ v.2 ∧ v.2 ≤ M
theorem Whl.mul {d : Int} {v : V2} (h : Whl d v) (k : Int) : Whl (d * k) v := by
  obtain ⟨x, y, h1, h2⟩ := h
  refine ⟨x * k, y * k, ?_, ?_⟩
  · rw [Rat.intCast_mul, Rat.intCast_mul, ← h1]; grind
  · rw [Rat.intCast_mul, Rat.intCast_mul, ← h2]; grind
theorem Upto.le {M N : Rat} {v : V2} (h : Upto M v) (l : M ≤ N) : Upto N v := by
  obtain ⟨h1, h2, h3, h4⟩ := h
  exact ⟨h1, Rat.le_trans h2 l, h3, Rat.le_trans h4 l⟩
/-- the share of a place -/
theorem share_whl {x y z : Int × Int} (hx : 0 < x.2) (hz1 : 0 < z.1) (hz : 0 < z.2) (hy : 0 < y.2) : ∃ a b : Int, (vq x / vq z) * ((z.1 * (x.2 * y.2) : Int) : Rat) = a ∧ (vq y / vq z) * ((z.1 * (x.2 * y.2) : Int) : Rat) = b := by
  have h1 := cast_ne (b := x.2) (by omega)
  have h2 := cast_ne (b := y.2) (by omega)
  have h3 := cast_ne (b := z.1) (by omega)
  have h4 := cast_ne (b := z.2) (by omega)
  refine ⟨x.1 * (z.2 * y.2), y.1 * (z.2 * x.2), ?_, ?_⟩
  · rw [Rat.intCast_mul, Rat.intCast_mul, Rat.intCast_mul, Rat.intCast_mul]
    unfold vq
    grind
  · rw [Rat.intCast_mul, Rat.intCast_mul, Rat.intCast_mul, Rat.intCast_mul]
    unfold vq
    grind
theorem mid_whl {L : Int → Int → Rat} {lo m hi : Int} {u v : V2} {d k : Int} {a b : Int} (h1 : Whl d u) (h2 : Whl d v) (ha : (L m hi / L lo hi) * (k : Rat) = a) (hb : (L lo m / L lo hi) * (k : Rat) = b) : Whl (d * k) (mid L lo m hi u v) := by
  obtain ⟨x, y, e1, e2⟩ := h1
  obtain ⟨x', y', e3, e4⟩ := h2
  refine ⟨a * x + b * x', a * y + b * y', ?_, ?_⟩
  · rw [Rat.intCast_add, Rat.intCast_mul, Rat.intCast_mul, Rat.intCast_mul, ← e1, ← e3, ← ha, ← hb]
    unfold mid
    simp only
    grind
  · rw [Rat.intCast_add, Rat.intCast_mul, Rat.intCast_mul, Rat.intCast_mul, ← e2, ← e4, ← ha, ← hb]
    unfold mid
    simp only
    grind
theorem vq_lt {t b : Nat} {x : Int × Int} (h : F2 t b x) : vq x ≤ ((2 : Int) ^ t : Int) := by
  have h2 := cast_ne (b := x.2) (by have := h.low.pos; omega)
  have p2 : (0 : Rat) < (x.2 : Rat) := Rat.intCast_pos.mpr h.low.pos
  have e : vq x * (x.2 : Rat) = x.1 := by unfold vq; exact Rat.div_mul_cancel h2
  have q := h.qpos
  have l : (x.1 : Rat) ≤ (((2 : Int) ^ t : Int) : Rat) := Rat.intCast_le_intCast.mpr (Int.le_of_lt h.bt)
  have o : (1 : Rat) ≤ (x.2 : Rat) := by
    have : ((1 : Int) : Rat) ≤ (x.2 : Rat) := Rat.intCast_le_intCast.mpr (by have := h.low.pos; omega)
    exact this
  have m := Rat.mul_le_mul_of_nonneg_left o (Rat.le_of_lt q)
  grind
theorem vq_inv {t b : Nat} {x : Int × Int} (h : F2 t b x) : 1 / vq x ≤ ((2 : Int) ^ b : Int) := by
  have s : F2 b t (x.2, x.1) := ⟨h.low.pos, ⟨h.top, by have := h.low.one; rw [Nat.gcd_comm]; exact this⟩, h.bb, h.bt⟩
  have e : vq (x.2, x.1) = 1 / vq x := by
    have h2 := cast_ne (b := x.2) (by have := h.low.pos; omega)
    have h1 := cast_ne (b := x.1) (by have := h.top; omega)
    unfold vq
    simp only
    grind
  rw [← e]
  exact vq_lt s

theorem upto_mid {L : Int → Int → Rat} {lo m hi : Int} {u v : V2} {M A B : Rat} (h1 : Upto M u) (h2 : Upto M v) (p1 : 0 ≤ L m hi / L lo hi) (p2 : 0 ≤ L lo m / L lo hi) (a1 : L m hi / L lo hi ≤ A) (a2 : L lo m / L lo hi ≤ A) (hM : 0 ≤ M) (e : B = (A * M + A * M)) : Upto B (mid L lo m hi u v) := by
  obtain ⟨x1, x2, x3, x4⟩ := h1
  obtain ⟨y1, y2, y3, y4⟩ := h2
  have go : ∀ {s t : Rat}, 0 ≤ s → s ≤ M → 0 ≤ t → t ≤ A → 0 ≤ t * s ∧ t * s ≤ A * M := fun {s t} s0 s1 t0 t1 => by
    refine ⟨Rat.mul_nonneg t0 s0, Rat.le_trans (Rat.mul_le_mul_of_nonneg_left s1 t0) ?_⟩
    exact Rat.mul_le_mul_of_nonneg_right t1 hM
  have g1 := go x1 x2 p1 a1
  have g2 := go y1 y2 p2 a2
  have g3 := go x3 x4 p1 a1
  have g4 := go y3 y4 p2 a2
  unfold mid Upto
  simp only
  refine ⟨?_, ?_, ?_, ?_⟩ <;> grind
def depth : Tr → Nat
  | .lf => 0
  | .nd _ l r => max (depth l) (depth r) + 1
theorem depth_le {S : Int → Prop} : ∀ {T : Tr} {lo hi : Int}, TOk S lo hi T → (depth T : Int) + 1 ≤ hi - lo
  | .lf, lo, hi, h => by
    have := h.1
    show ((0 : Nat) : Int) + 1 ≤ hi - lo
    omega
  | .nd m l r, lo, hi, ⟨_, h1, h2⟩ => by
    have d1 := depth_le h1
    have d2 := depth_le h2
    have l1 := h1.lt
    have l2 := h2.lt
    show ((max (depth l) (depth r) + 1 : Nat) : Int) + 1 ≤ hi - lo
    omega
/-- the bounds of the places -/
structure Sized (d m : Nat) (v : V2) : Prop where
  whl : ∃ k : Int, 0 < k ∧ k < 2 ^ d ∧ Whl k v
  upto : Upto ((2 : Int) ^ m : Int) v
theorem vec_sized {f : Int × Int → Int × Int} {S : Int → Prop} {t b : Nat} : ∀ {T : Tr} {lo hi : Int} {u v : V2} {d m : Nat} {k : Int}, TOk S lo hi T → (∀ a c, tie lo hi T a c → F2 t b (f (a, c))) → 0 < k → k < 2 ^ d → Whl k u → Whl k v → Upto ((2 : Int) ^ m : Int) u → Upto ((2 : Int) ^ m : Int) v →
    ∀ z, Sized (d + depth T * (t + (b + b))) (m + depth T * (t + b + 1)) (vec (fun a c => vq (f (a, c))) lo hi T u v z)
  | .lf, lo, hi, u, v, d, m, k, h, hf, k0, k1, w1, w2, u1, u2, z => by
    show Sized (d + 0 * _) (m + 0 * _) (if z = lo then u else v)
    rw [Nat.zero_mul, Nat.zero_mul]
    by_cases e : z = lo
    · rw [if_pos e]; exact ⟨⟨k, k0, k1, w1⟩, u1⟩
    · rw [if_neg e]; exact ⟨⟨k, k0, k1, w2⟩, u2⟩
  | .nd x l r, lo, hi, u, v, d, m, k, ⟨_, h1, h2⟩, hf, k0, k1, w1, w2, u1, u2, z => by
    have fr := hf _ _ (tie_root (T := .nd x l r))
    have fa := hf x hi (.inr (.inr tie_root))
    have fb := hf lo x (.inr (.inl tie_root))
    obtain ⟨a, c, ea, ec⟩ := share_whl (x := f (x, hi)) (y := f (lo, x)) (z := f (lo, hi)) fa.low.pos fr.top fr.low.pos fb.low.pos
    have kp : 0 < (f (lo, hi)).1 * ((f (x, hi)).2 * (f (lo, x)).2) := Int.mul_pos fr.top (Int.mul_pos fa.low.pos fb.low.pos)
    have kb : (f (lo, hi)).1 * ((f (x, hi)).2 * (f (lo, x)).2) < 2 ^ (t + (b + b)) := pow2_mul fr.top (Int.mul_pos fa.low.pos fb.low.pos) fr.bt (pow2_mul fa.low.pos fb.low.pos fa.bb fb.bb)
    generalize (f (lo, hi)).1 * ((f (x, hi)).2 * (f (lo, x)).2) = q at *
    have wm := mid_whl (L := fun a c => vq (f (a, c))) (lo := lo) (m := x) (hi := hi) w1 w2 ea ec
    have kq0 : 0 < k * q := Int.mul_pos k0 kp
    have kq1 : k * q < 2 ^ (d + (t + (b + b))) := pow2_mul k0 kp k1 kb
    have inv := vq_inv fr
    have go : ∀ {y : Int × Int}, F2 t b y → 0 ≤ vq y / vq (f (lo, hi)) ∧ vq y / vq (f (lo, hi)) ≤ (((2 : Int) ^ (t + b) : Int) : Rat) := fun {y} hy => by
      refine ⟨Rat.le_of_lt (rdiv_pos hy.qpos fr.qpos), ?_⟩
      have e : vq y / vq (f (lo, hi)) = vq y * (1 / vq (f (lo, hi))) := by grind
      rw [e, Int.pow_add, Rat.intCast_mul]
      have p : (0 : Rat) ≤ 1 / vq (f (lo, hi)) := Rat.le_of_lt (rdiv_pos (by decide) fr.qpos)
      have p2 : (0 : Rat) ≤ (((2 : Int) ^ t : Int) : Rat) := Rat.intCast_nonneg.mpr (Int.le_of_lt (Int.pow_pos (by decide)))
      exact Rat.le_trans (Rat.mul_le_mul_of_nonneg_right (vq_lt hy) p) (Rat.mul_le_mul_of_nonneg_left inv p2)
    obtain ⟨a0, a1⟩ := go fa
    obtain ⟨b0, b1⟩ := go fb
    have hM : (0 : Rat) ≤ (((2 : Int) ^ m : Int) : Rat) := Rat.intCast_nonneg.mpr (Int.le_of_lt (Int.pow_pos (by decide)))
    have um : Upto ((2 : Int) ^ (m + (t + b + 1)) : Int) (mid (fun a c => vq (f (a, c))) lo x hi u v) := by
      refine upto_mid u1 u2 a0 b0 a1 b1 hM ?_
      rw [Int.pow_add, Int.pow_succ, Rat.intCast_mul, Rat.intCast_mul]
      have : ((2 : Int) : Rat) = 2 := rfl
      rw [this]
      grind
    have lM : (((2 : Int) ^ m : Int) : Rat) ≤ (((2 : Int) ^ (m + (t + b + 1)) : Int) : Rat) := Rat.intCast_le_intCast.mpr (ipow_le (by omega))
    have fin : ∀ {e : Nat} {y : V2}, e ≤ max (depth l) (depth r) → Sized (d + (t + (b + b)) + e * (t + (b + b))) (m + (t + b + 1) + e * (t + b + 1)) y → Sized (d + depth (.nd x l r) * (t + (b + b))) (m + depth (.nd x l r) * (t + b + 1)) y := fun {e y} he hs => by
      obtain ⟨⟨g, g0, g1, g2⟩, g3⟩ := hs
      have n1 : e * (t + (b + b)) ≤ max (depth l) (depth r) * (t + (b + b)) := Nat.mul_le_mul_right _ he
      have n2 : e * (t + b + 1) ≤ max (depth l) (depth r) * (t + b + 1) := Nat.mul_le_mul_right _ he
      have d1 : depth (.nd x l r) * (t + (b + b)) = max (depth l) (depth r) * (t + (b + b)) + (t + (b + b)) := Nat.succ_mul _ _
      have d2 : depth (.nd x l r) * (t + b + 1) = max (depth l) (depth r) * (t + b + 1) + (t + b + 1) := Nat.succ_mul _ _
      refine ⟨⟨g, g0, Int.lt_of_lt_of_le g1 (ipow_le (by omega)), g2⟩, g3.le (Rat.intCast_le_intCast.mpr (ipow_le (by omega)))⟩
    by_cases e : z ≤ x
    · rw [vec_left e]
      exact fin (Nat.le_max_left _ _) (vec_sized h1 (fun a c t => hf a c (.inr (.inl t))) kq0 kq1 (w1.mul q) wm (u1.le lM) um z)
    · rw [vec_right h1 h2 (by omega)]
      exact fin (Nat.le_max_right _ _) (vec_sized h2 (fun a c t => hf a c (.inr (.inr t))) kq0 kq1 wm (w2.mul q) um (u2.le lM) z)

/-! ### a cutting stands -/
structure Stands (n : Int) (l : List (Int × Int)) (f : Int × Int → Int × Int) (v : Int → V2) : Prop where
  on : ∀ q ∈ tiesS n l, vq (f q) = det (v q.1) (v q.2)
  pos : ∀ i j, 0 ≤ i → i < j → j < n → 0 < det (v i) (v j)
theorem tie_ties {n : Int} {l : List (Int × Int)} {T : Tr} (h3 : 3 ≤ n) (hT : TOk (inR n) 0 (n - 1) T) (hR : ∀ a b, (a, b) ∈ l ↔ tie 0 (n - 1) T a b ∧ a + 2 ≤ b ∧ ¬ (a = 0 ∧ b = n - 1)) (a b : Int) : tie 0 (n - 1) T a b ↔ (a, b) ∈ tiesS n l := by
  have e : (a, b) ∈ tiesS n l ↔ (a, b) ∈ sidesL n ++ l := sort2_mem
  rw [e, List.mem_append]
  constructor
  · intro t
    have q := tie_in hT t
    by_cases c : a + 2 ≤ b ∧ ¬ (a = 0 ∧ b = n - 1)
    · exact .inr ((hR a b).mpr ⟨t, c⟩)
    · refine .inl ?_
      unfold sidesL
      rw [List.mem_append, List.mem_map]
      by_cases c2 : a = 0 ∧ b = n - 1
      · exact .inr (by rw [c2.1, c2.2]; exact List.mem_singleton.mpr rfl)
      · refine .inl ⟨a, mem_rng.mpr (by omega), ?_⟩
        have : b = a + 1 := by omega
        rw [this]
  · rintro (z | z)
    · unfold sidesL at z
      rcases List.mem_append.mp z with z | z
      · obtain ⟨k, hk, ek⟩ := List.mem_map.mp z
        have hk := mem_rng.mp hk
        cases ek
        exact tie_adj hT ⟨by omega, by omega⟩ ⟨by omega, by omega⟩ ⟨by omega, by omega⟩ ⟨by omega, by omega⟩ (by omega) (fun z _ => by omega) (by omega) (by omega)
      · cases List.mem_singleton.mp z
        exact tie_root
    · exact ((hR a b).mp z).1
/-- every cutting stands, and the places are bounded -/
theorem stand {n : Int} {l : List (Int × Int)} {f : Int × Int → Int × Int} {t b : Nat} (hC : IsCut n l) (h12 : n ≤ 12) (hf : ∀ q ∈ tiesS n l, F2 t b (f q)) :
    ∃ v : Int → V2, Stands n l f v ∧ ∀ z, Sized (b + 10 * (t + (b + b))) (t + 10 * (t + b + 1)) (v z) := by
  obtain ⟨T, hT, hR⟩ := hC.ex
  have h3 := hC.three
  have tt := tie_ties h3 hT hR
  have hf' : ∀ a c, tie 0 (n - 1) T a c → F2 t b (f (a, c)) := fun a c k => hf _ ((tt a c).mp k)
  have fr := hf' _ _ (tie_root (T := T))
  have dl := depth_le hT
  have hd : det ((1, 0) : V2) ((0, vq (f (0, n - 1))) : V2) = vq (f (0, n - 1)) := by
    unfold det
    simp only
    grind
  refine ⟨vec (fun a c => vq (f (a, c))) 0 (n - 1) T (1, 0) (0, vq (f (0, n - 1))), ⟨fun q hq => ?_, fun i j h1 h2 h4 => ?_⟩, fun z => ?_⟩
  · exact (vec_tie (L := fun a c => vq (f (a, c))) hT (fun a c k => rpos_ne (hf' a c k).qpos) hd q.1 q.2 ((tt q.1 q.2).mpr hq)).symm
  · exact vec_pos (L := fun a c => vq (f (a, c))) hT (fun a c k => (hf' a c k).qpos) hd i j ⟨h1, by omega⟩ ⟨by omega, h4⟩ h1 h2 (by omega)
  · have one : (1 : Rat) ≤ (((2 : Int) ^ t : Int) : Rat) := by
      have : ((1 : Int) : Rat) ≤ (((2 : Int) ^ t : Int) : Rat) := Rat.intCast_le_intCast.mpr (Int.pow_pos (by decide))
      exact this
    have zr : ((0 : Int) : Rat) = 0 := rfl
    have w1 : Whl (f (0, n - 1)).2 ((1, 0) : V2) := ⟨(f (0, n - 1)).2, 0, by simp only; grind, by simp only; rw [zr]; grind⟩
    have w2 : Whl (f (0, n - 1)).2 ((0, vq (f (0, n - 1))) : V2) := ⟨0, (f (0, n - 1)).1, by simp only; rw [zr]; grind, by
      simp only
      unfold vq
      exact Rat.div_mul_cancel (cast_ne (by have := fr.low.pos; omega))⟩
    have zero : (0 : Rat) ≤ (((2 : Int) ^ t : Int) : Rat) := by grind
    have s := vec_sized (f := f) (m := t) hT hf' fr.low.pos fr.bb w1 w2 ⟨by decide, one, Rat.le_refl, zero⟩ ⟨Rat.le_refl, zero, Rat.le_of_lt fr.qpos, vq_lt fr⟩ z
    obtain ⟨⟨g, g0, g1, g2⟩, g3⟩ := s
    have n1 : depth T * (t + (b + b)) ≤ 10 * (t + (b + b)) := Nat.mul_le_mul_right _ (by omega)
    have n2 : depth T * (t + b + 1) ≤ 10 * (t + b + 1) := Nat.mul_le_mul_right _ (by omega)
    exact ⟨⟨g, g0, Int.lt_of_lt_of_le g1 (ipow_le (by omega)), g2⟩, g3.le (Rat.intCast_le_intCast.mpr (ipow_le (by omega)))⟩
/-- a length that stands is bounded by the places of its posts -/
theorem det_f2 {d m d' m' : Nat} {u v : V2} {x : Int × Int} (hu : Sized d m u) (hv : Sized d' m' v) (hx : Low x.1 x.2) (hp : 0 < det u v) (e : vq x = det u v) : F2 (m + m' + (d + d')) (d + d') x := by
  obtain ⟨⟨k, k0, k1, a, c, ea, ec⟩, u1, u2, u3, u4⟩ := hu
  obtain ⟨⟨k', k0', k1', a', c', ea', ec'⟩, v1, v2, v3, v4⟩ := hv
  have xp := hx.pos
  have x2 := cast_ne (b := x.2) (by omega)
  have xpq : (0 : Rat) < (x.2 : Rat) := Rat.intCast_pos.mpr xp
  have kk := Int.mul_pos k0 k0'
  have e1 : vq x * (x.2 : Rat) = x.1 := by unfold vq; exact Rat.div_mul_cancel x2
  have top : 0 < x.1 := by
    have h : (0 : Rat) < (x.1 : Rat) := by rw [← e1, e]; exact Rat.mul_pos hp xpq
    exact Rat.intCast_pos.mp h
  have eN : x.1 * (k * k') = x.2 * (a * c' - c * a') := by
    have h : ((x.1 * (k * k') : Int) : Rat) = ((x.2 * (a * c' - c * a') : Int) : Rat) := by
      rw [Rat.intCast_mul, Rat.intCast_mul, Rat.intCast_mul, Rat.intCast_sub, Rat.intCast_mul, Rat.intCast_mul, ← e1, e, ← ea, ← ec, ← ea', ← ec']
      unfold det
      grind
    exact Rat.intCast_inj.mp h
  have dv : x.2.natAbs ∣ (k * k').natAbs := by
    have h : x.2.natAbs ∣ x.1.natAbs * (k * k').natAbs := by
      rw [← Int.natAbs_mul, eN, Int.natAbs_mul]
      exact Nat.dvd_mul_right _ _
    have cp : Nat.Coprime x.2.natAbs x.1.natAbs := by
      have := hx.one
      rw [Nat.gcd_comm] at this
      exact this
    exact cp.dvd_of_dvd_mul_left h
  have le := Nat.le_of_dvd (by omega) dv
  have kb := pow2_mul k0 k0' k1 k1'
  have b2 : x.2 < 2 ^ (d + d') := by omega
  refine ⟨top, hx, ?_, b2⟩
  have M0 : (0 : Rat) ≤ (((2 : Int) ^ m : Int) : Rat) := Rat.intCast_nonneg.mpr (Int.le_of_lt (Int.pow_pos (by decide)))
  have M1 : (0 : Rat) < (((2 : Int) ^ m * 2 ^ m' : Int) : Rat) := Rat.intCast_pos.mpr (Int.mul_pos (Int.pow_pos (by decide)) (Int.pow_pos (by decide)))
  have l1 : det u v ≤ (((2 : Int) ^ m * 2 ^ m' : Int) : Rat) := by
    have q1 := Rat.mul_nonneg u3 v1
    have q2 := Rat.le_trans (Rat.mul_le_mul_of_nonneg_right u2 v3) (Rat.mul_le_mul_of_nonneg_left v4 M0)
    rw [Rat.intCast_mul]
    unfold det
    grind
  have l2 : (x.1 : Rat) ≤ (((2 : Int) ^ m * 2 ^ m' * x.2 : Int) : Rat) := by
    rw [← e1, e, Rat.intCast_mul]
    exact Rat.mul_le_mul_of_nonneg_right l1 (Rat.le_of_lt xpq)
  have l3 : x.1 ≤ (2 : Int) ^ m * 2 ^ m' * x.2 := Rat.intCast_le_intCast.mp l2
  have p0 : (0 : Int) < 2 ^ m * 2 ^ m' := Int.mul_pos (Int.pow_pos (by decide)) (Int.pow_pos (by decide))
  have l4 : (2 : Int) ^ m * 2 ^ m' * x.2 < 2 ^ (m + m' + (d + d')) := by
    rw [Int.pow_add 2 (m + m'), Int.pow_add 2 m]
    exact Int.mul_lt_mul_of_pos_left b2 p0
  omega
/-- a post may be stretched -/
theorem Sized.scale {d m t b : Nat} {v : V2} {x : Int × Int} (h : Sized d m v) (hx : F2 t b x) : Sized (d + b) (m + t) (vq x * v.1, vq x * v.2) := by
  obtain ⟨⟨k, k0, k1, a, c, ea, ec⟩, u1, u2, u3, u4⟩ := h
  have x2 := cast_ne (b := x.2) (by have := hx.low.pos; omega)
  have e1 : vq x * (x.2 : Rat) = x.1 := by unfold vq; exact Rat.div_mul_cancel x2
  have q := Rat.le_of_lt hx.qpos
  have go : ∀ {s : Rat}, 0 ≤ s → s ≤ (((2 : Int) ^ m : Int) : Rat) → 0 ≤ vq x * s ∧ vq x * s ≤ (((2 : Int) ^ (m + t) : Int) : Rat) := fun {s} s0 s1 => by
    refine ⟨Rat.mul_nonneg q s0, ?_⟩
    rw [Int.pow_add, Int.mul_comm, Rat.intCast_mul]
    have p2 : (0 : Rat) ≤ (((2 : Int) ^ t : Int) : Rat) := Rat.intCast_nonneg.mpr (Int.le_of_lt (Int.pow_pos (by decide)))
    exact Rat.le_trans (Rat.mul_le_mul_of_nonneg_right (vq_lt hx) s0) (Rat.mul_le_mul_of_nonneg_left s1 p2)
  refine ⟨⟨k * x.2, Int.mul_pos k0 hx.low.pos, pow2_mul k0 hx.low.pos k1 hx.bb, x.1 * a, x.1 * c, ?_, ?_⟩, (go u1 u2).1, (go u1 u2).2, (go u3 u4).1, (go u3 u4).2⟩
  · rw [Rat.intCast_mul, Rat.intCast_mul, ← e1, ← ea]
    simp only
    grind
  · rw [Rat.intCast_mul, Rat.intCast_mul, ← e1, ← ec]
    simp only
    grind
theorem det_scale (p q : Rat) (u v : V2) : det (p * u.1, p * u.2) (q * v.1, q * v.2) = p * q * det u v := by
  unfold det
  simp only
  grind
/-- behind a turning the cutting stands on the same places -/
theorem Stands.turn {n : Int} {l l' : List (Int × Int)} {f g : Int × Int → Int × Int} {v : Int → V2} {p : Int × Int} {m z : Int} {k : Nat} (h : Stands n l f v) (hC : IsCut n l) (hp : p ∈ l) (ar : Around n l p m z) (hz : 0 ≤ z ∧ z < n)
    (ties : ∀ q, q ∈ tiesS n l' ↔ (q ∈ tiesS n l ∧ q ≠ p) ∨ q = pr m z) (fr : ∀ q ∈ tiesS n l, Frac k (f q)) (off : ∀ q ∈ tiesS n l, q ≠ p → g q = f q) (on : g (pr m z) = acrV f p (pr m z)) : Stands n l' g v := by
  refine ⟨fun q hq => ?_, h.pos⟩
  rcases (ties q).mp hq with ⟨h1, h2⟩ | e
  · rw [off q h1 h2]
    exact h.on q h1
  subst e
  have hb := tie_bd hC (rope_tie hp)
  have a := ar
  have f1 := fr _ a.lm
  have f2 := fr _ a.hz
  have f3 := fr _ a.hm
  have f4 := fr _ a.lz
  have f5 := fr _ (rope_tie (n := n) hp)
  have n5 := vq_ne f5
  have low : ∀ {a c : Int}, a < c → pr a c ∈ tiesS n l → vq (f (pr a c)) = det (v a) (v c) := fun {a c} ac hq => by
    rw [h.on _ hq, pr_of_lt ac]
  have v5 := h.on _ (rope_tie (n := n) hp)
  have m0 := a.m0
  have m1 := a.m1
  have pl : pr m p.1 = pr p.1 m := pr_comm _ _
  rw [on]
  rcases a.out with o | o
  · have e : pr m z = (z, m) := by rw [pr_comm]; exact pr_of_lt (by omega)
    have w1 := low m0 a.lm
    have w2 : vq (f (pr p.2 z)) = det (v z) (v p.2) := by rw [pr_comm]; exact low (by omega) (by rw [pr_comm]; exact a.hz)
    have w3 : vq (f (pr p.2 m)) = det (v m) (v p.2) := by rw [pr_comm]; exact low m1 (by rw [pr_comm]; exact a.hm)
    have w4 : vq (f (pr p.1 z)) = det (v z) (v p.1) := by rw [pr_comm]; exact low o (by rw [pr_comm]; exact a.lz)
    rw [e]
    unfold acrV
    simp only
    rw [pr_comm z p.1, pr_comm m p.2, pr_comm z p.2, pr_comm m p.1, vq_div (addV_frac (mulV_frac f4 f3) (mulV_frac f2 f1)) f5, vq_add (mulV_frac f4 f3) (mulV_frac f2 f1), vq_mul f4 f3, vq_mul f2 f1, w1, w2, w3, w4]
    have P := pluecker (v z) (v p.1) (v m) (v p.2)
    rw [v5] at n5 ⊢
    generalize det (v z) (v m) = X at *
    rw [← P]
    grind
  · have e : pr m z = (m, z) := pr_of_lt (by omega)
    have w1 := low m0 a.lm
    have w2 : vq (f (pr p.2 z)) = det (v p.2) (v z) := low o a.hz
    have w3 : vq (f (pr p.2 m)) = det (v m) (v p.2) := by rw [pr_comm]; exact low m1 (by rw [pr_comm]; exact a.hm)
    have w4 : vq (f (pr p.1 z)) = det (v p.1) (v z) := low (by omega) a.lz
    rw [e]
    unfold acrV
    simp only
    rw [pr_comm z p.1, pr_comm m p.2, pr_comm z p.2, pr_comm m p.1, vq_div (addV_frac (mulV_frac f1 f2) (mulV_frac f3 f4)) f5, vq_add (mulV_frac f1 f2) (mulV_frac f3 f4), vq_mul f1 f2, vq_mul f3 f4, w1, w2, w3, w4]
    have P := pluecker (v p.1) (v m) (v p.2) (v z)
    rw [v5] at n5 ⊢
    generalize det (v m) (v z) = X at *
    have P2 : det (v p.1) (v m) * det (v p.2) (v z) + det (v m) (v p.2) * det (v p.1) (v z) = det (v p.1) (v p.2) * X := by rw [P]; grind
    rw [P2]
    grind

/-! ### likeness: what each post is stretched by -/
theorem sq_eq {x y : Rat} (hx : 0 < x) (hy : 0 < y) (h : x * x = y * y) : x = y := by
  have h1 : (x - y) * (x + y) = 0 := by grind
  rcases Rat.mul_eq_zero.mp h1 with z | z
  · grind
  · grind
def phi (G : Int → Int → Rat) : Int → Int → Tr → Rat → Rat → Int → Rat
  | lo, _, .lf, u, v, z => if z = lo then u else v
  | lo, hi, .nd m l r, u, v, z => if z ≤ m then phi G lo m l u (G lo m * G m hi / G lo hi) z else phi G m hi r (G lo m * G m hi / G lo hi) v z
section
variable {S : Int → Prop} {G : Int → Int → Rat}
theorem phi_lo : ∀ {T : Tr} {lo hi : Int} {u v : Rat}, TOk S lo hi T → phi G lo hi T u v lo = u
  | .lf, _, _, _, _, _ => if_pos rfl
  | .nd m l r, lo, hi, u, v, ⟨_, h1, h2⟩ => by
    have := h1.lt
    show (if lo ≤ m then _ else _) = u
    rw [if_pos (by omega)]
    exact phi_lo h1
theorem phi_hi : ∀ {T : Tr} {lo hi : Int} {u v : Rat}, TOk S lo hi T → phi G lo hi T u v hi = v
  | .lf, lo, hi, _, _, h => if_neg (by have := h.1; omega)
  | .nd m l r, lo, hi, u, v, ⟨_, h1, h2⟩ => by
    have := h2.lt
    show (if hi ≤ m then _ else _) = v
    rw [if_neg (by omega)]
    exact phi_hi h2
theorem phi_left {m : Int} {l r : Tr} {lo hi z : Int} {u v : Rat} (h : z ≤ m) : phi G lo hi (.nd m l r) u v z = phi G lo m l u (G lo m * G m hi / G lo hi) z := if_pos h
theorem phi_right {m : Int} {l r : Tr} {lo hi z : Int} {u v : Rat} (h1 : TOk S lo m l) (h2 : TOk S m hi r) (h : m ≤ z) : phi G lo hi (.nd m l r) u v z = phi G m hi r (G lo m * G m hi / G lo hi) v z := by
  by_cases e : z = m
  · subst e
    rw [phi_left (Int.le_refl _), phi_hi h1, phi_lo h2]
  · exact if_neg (by omega)
def fits (G : Int → Int → Rat) (lo hi : Int) (u : Rat) : Tr → Prop
  | .lf => True
  | .nd m _ _ => u * G m hi = G lo m * G lo hi
/-- the growths go together at each rope -/
def Goes (G : Int → Int → Rat) (t : Int → Int → Prop) : Prop := ∀ a s b w, a < s → s < b → t a s → t s b → t a b → (w < a ∧ t w a ∧ t w b ∨ b < w ∧ t a w ∧ t b w) → G a s * G b w = G s b * G a w
theorem phi_tie (t : Int → Int → Prop) (hG : ∀ a b, t a b → 0 < G a b) (sym : ∀ a b, G a b = G b a) (go : Goes G t) : ∀ {T : Tr} {lo hi : Int} {u v : Rat}, TOk S lo hi T → (∀ a b, tie lo hi T a b → t a b) → 0 < u → 0 < v → u * v = G lo hi * G lo hi → fits G lo hi u T →
    (∀ a b, tie lo hi T a b → phi G lo hi T u v a * phi G lo hi T u v b = G a b * G a b) ∧ ∀ z, 0 < phi G lo hi T u v z
  | .lf, lo, hi, u, v, h, ht, u0, v0, huv, _ => by
    refine ⟨?_, fun z => ?_⟩
    · rintro a b ⟨e1, e2⟩
      subst e1; subst e2
      rw [phi_lo h, phi_hi h, huv]
    · show 0 < (if z = lo then u else v)
      by_cases e : z = lo
      · rw [if_pos e]; exact u0
      · rw [if_neg e]; exact v0
  | .nd m l r, lo, hi, u, v, h, ht, u0, v0, huv, hfit => by
    obtain ⟨_, h1, h2⟩ := id h
    have l1 := h1.lt
    have l2 := h2.lt
    have ta := ht lo m (.inr (.inl tie_root))
    have tb := ht m hi (.inr (.inr tie_root))
    have tc := ht lo hi (.inl ⟨rfl, rfl⟩)
    have a := hG _ _ ta
    have b := hG _ _ tb
    have c := hG _ _ tc
    have hf : u * G m hi = G lo m * G lo hi := hfit
    have w0 := rdiv_pos (Rat.mul_pos a b) c
    have an := rpos_ne a
    have bn := rpos_ne b
    have cn := rpos_ne c
    have e1 : u * (G lo m * G m hi / G lo hi) = G lo m * G lo m := by grind
    have e2 : (G lo m * G m hi / G lo hi) * v = G m hi * G m hi := by
      have un := rpos_ne u0
      grind
    have f1 : fits G lo m u l := by
      cases l with
      | lf => trivial
      | nd x p q =>
        obtain ⟨_, k1, k2⟩ := h1
        have g := go lo x m hi k1.lt k2.lt (ht _ _ (.inr (.inl (.inr (.inl tie_root))))) (ht _ _ (.inr (.inl (.inr (.inr tie_root))))) ta (.inr ⟨l2, tc, tb⟩)
        show u * G x m = G lo x * G lo m
        grind
    have f2 : fits G m hi (G lo m * G m hi / G lo hi) r := by
      cases r with
      | lf => trivial
      | nd x p q =>
        obtain ⟨_, k1, k2⟩ := h2
        have g := go m x hi lo k1.lt k2.lt (ht _ _ (.inr (.inr (.inr (.inl tie_root))))) (ht _ _ (.inr (.inr (.inr (.inr tie_root))))) tb (.inl ⟨l1, ta, tc⟩)
        rw [sym hi lo, sym m lo] at g
        show (G lo m * G m hi / G lo hi) * G x hi = G m x * G m hi
        grind
    obtain ⟨q1, p1⟩ := phi_tie t hG sym go h1 (fun a b k => ht a b (.inr (.inl k))) u0 w0 e1 f1
    obtain ⟨q2, p2⟩ := phi_tie t hG sym go h2 (fun a b k => ht a b (.inr (.inr k))) w0 v0 e2 f2
    refine ⟨fun a b k => ?_, fun z => ?_⟩
    · rcases k with ⟨k1, k2⟩ | k | k
      · subst k1; subst k2
        rw [phi_lo h, phi_hi h, huv]
      · have i := tie_in h1 k
        rw [phi_left (by omega), phi_left (by omega)]
        exact q1 a b k
      · have i := tie_in h2 k
        rw [phi_right h1 h2 (by omega), phi_right h1 h2 (by omega)]
        exact q2 a b k
    · by_cases k : z ≤ m
      · rw [phi_left k]; exact p1 z
      · rw [phi_right h1 h2 (by omega)]; exact p2 z
end
/-- the posts' fractions lead from the one lengths to the others -/
structure Led (n : Int) (l : List (Int × Int)) (f f' : Int × Int → Int × Int) (φ : Int → Rat) : Prop where
  pos : ∀ z, 0 < φ z
  sq : ∀ q ∈ tiesS n l, vq (f' q) * vq (f' q) = φ q.1 * φ q.2 * (vq (f q) * vq (f q))
def Gq (f f' : Int × Int → Int × Int) (a b : Int) : Rat := Lq f' a b / Lq f a b
theorem Gq_comm (f f' : Int × Int → Int × Int) (a b : Int) : Gq f f' a b = Gq f f' b a := by unfold Gq; rw [Lq_comm f, Lq_comm f']
theorem frac_pos {b : Nat} {x : Int × Int} (h : Frac b x) : 0 < vq x := h.f2.qpos
theorem alike_led {n : Int} {l : List (Int × Int)} {f f' : Int × Int → Int × Int} {k : Nat} (hC : IsCut n l) (h1 : ∀ q ∈ tiesS n l, Frac k (f q)) (h2 : ∀ q ∈ tiesS n l, Frac k (f' q)) (h : ∀ r ∈ l, rateL n l f r = rateL n l f' r) : ∃ φ, Led n l f f' φ := by
  obtain ⟨T, hT, hR⟩ := hC.ex
  have h3 := hC.three
  have tt := tie_ties h3 hT hR
  have prt : ∀ {a b : Int}, a < b → (a, b) ∈ tiesS n l → pr a b ∈ tiesS n l := fun ab q => by rw [pr_of_lt ab]; exact q
  have gp : ∀ {a b : Int}, pr a b ∈ tiesS n l → 0 < Lq f a b ∧ 0 < Lq f' a b := fun q => ⟨frac_pos (h1 _ q), frac_pos (h2 _ q)⟩
  have hlt : ∀ {a b : Int}, (a, b) ∈ tiesS n l → a < b := fun q => (tie_bd hC q).2.1
  have hG : ∀ a b, (a, b) ∈ tiesS n l → 0 < Gq f f' a b := fun a b q => by
    have := gp (prt (hlt q) q)
    exact rdiv_pos this.2 this.1
  have go : Goes (Gq f f') (fun a b => (a, b) ∈ tiesS n l) := by
    intro a s b w as sb t1 t2 t3 hw
    have r1 := prt as t1
    have r2 := prt sb t2
    have bd := tie_bd hC t3
    have w1 : pr a w ∈ tiesS n l := by
      rcases hw with ⟨o, x, y⟩ | ⟨o, x, y⟩
      · rw [pr_comm]; exact prt o x
      · exact prt (by omega) x
    have w2 : pr b w ∈ tiesS n l := by
      rcases hw with ⟨o, x, y⟩ | ⟨o, x, y⟩
      · rw [pr_comm]; exact prt (by omega) y
      · exact prt o y
    have wo : w < a ∨ b < w := by omega
    have bw := tie_bd hC w2
    have bw1 := tie_bd hC w1
    have hr : (a, b) ∈ l := by
      refine (hR a b).mpr ⟨(tt a b).mpr t3, by omega, ?_⟩
      rintro ⟨e1, e2⟩
      unfold pr at bw bw1
      simp only at bw bw1
      simp only at bd
      omega
    have e := h _ hr
    rw [rate_in (f := f) hC hr r1 (by rw [pr_comm]; exact r2) ⟨as, sb⟩ w1 w2 wo, rate_in (f := f') hC hr r1 (by rw [pr_comm]; exact r2) ⟨as, sb⟩ w1 w2 wo] at e
    have x1 := (rateV_q (f := f) (p := (a, b)) (m := s) (z := w) (h1 _ r1) (h1 _ w2) (h1 _ r2) (by rw [pr_comm]; exact h1 _ w1)).1
    have x2 := (rateV_q (f := f') (p := (a, b)) (m := s) (z := w) (h2 _ r1) (h2 _ w2) (h2 _ r2) (by rw [pr_comm]; exact h2 _ w1)).1
    rw [← e, x1] at x2
    simp only at x2
    have g1 := gp r1
    have g2 := gp r2
    have g3 := gp w1
    have g4 := gp w2
    rw [Lq_comm f w a, Lq_comm f' w a] at x2
    have a1 := rpos_ne g1.1
    have a2 := rpos_ne g2.1
    have a3 := rpos_ne g3.1
    have a4 := rpos_ne g4.1
    have b2 := rpos_ne g2.2
    have b3 := rpos_ne g3.2
    have c1 := mne a2 a3
    have c2 := mne b2 b3
    have c3 := mne a1 a4
    have x3 : Lq f a s * Lq f b w * (Lq f' s b * Lq f' a w) = Lq f' a s * Lq f' b w * (Lq f s b * Lq f a w) := by
      generalize Lq f s b * Lq f a w = K at *
      generalize Lq f' s b * Lq f' a w = K' at *
      generalize Lq f a s * Lq f b w = N at *
      generalize Lq f' a s * Lq f' b w = N' at *
      grind
    have y1 : Gq f f' a s * Gq f f' b w = (Lq f' a s * Lq f' b w) / (Lq f a s * Lq f b w) := by unfold Gq; grind
    have y2 : Gq f f' s b * Gq f f' a w = (Lq f' s b * Lq f' a w) / (Lq f s b * Lq f a w) := by unfold Gq; grind
    rw [y1, y2]
    generalize Lq f s b * Lq f a w = K at *
    generalize Lq f' s b * Lq f' a w = K' at *
    generalize Lq f a s * Lq f b w = N at *
    generalize Lq f' a s * Lq f' b w = N' at *
    grind
  cases T with
  | lf => exact absurd (hT.2 1 ⟨by omega, by omega⟩) (by omega)
  | nd m lt rt =>
    have ta := hG _ _ ((tt 0 m).mp (.inr (.inl tie_root)))
    have tb := hG _ _ ((tt m (n - 1)).mp (.inr (.inr tie_root)))
    have tc := hG _ _ ((tt 0 (n - 1)).mp (.inl ⟨rfl, rfl⟩))
    have an := rpos_ne ta
    have bn := rpos_ne tb
    have cn := rpos_ne tc
    obtain ⟨q, p⟩ := phi_tie (G := Gq f f') (u := Gq f f' 0 m * Gq f f' 0 (n - 1) / Gq f f' m (n - 1)) (v := Gq f f' m (n - 1) * Gq f f' 0 (n - 1) / Gq f f' 0 m) (fun a b => (a, b) ∈ tiesS n l) hG (Gq_comm f f') go hT (fun a b t => (tt a b).mp t)
      (rdiv_pos (Rat.mul_pos ta tc) tb) (rdiv_pos (Rat.mul_pos tb tc) ta) (by grind) (by show _ * _ = _; grind)
    refine ⟨_, p, fun x hx => ?_⟩
    have e := q x.1 x.2 ((tt _ _).mpr hx)
    have lt := (tie_bd hC hx).2.1
    have g := gp (prt lt hx)
    rw [e]
    have g1 := rpos_ne g.1
    unfold Gq
    unfold Lq at *
    rw [pr_of_lt lt] at *
    grind
/-- at a plot, the fraction of a post -/
theorem Led.at_plot {n : Int} {l : List (Int × Int)} {f f' : Int × Int → Int × Int} {φ : Int → Rat} {k : Nat} (h : Led n l f f' φ) (h1 : ∀ q ∈ tiesS n l, Frac k (f q)) (h2 : ∀ q ∈ tiesS n l, Frac k (f' q)) {a b c : Int} (t1 : pr a b ∈ tiesS n l) (t2 : pr a c ∈ tiesS n l) (t3 : pr b c ∈ tiesS n l) :
    Gq f f' a b * Gq f f' a c / Gq f f' b c = φ a := by
  have sq : ∀ {a b : Int}, pr a b ∈ tiesS n l → Gq f f' a b * Gq f f' a b = φ a * φ b ∧ 0 < Gq f f' a b := fun {a b} q => by
    have p1 := frac_pos (h1 _ q)
    have p2 := frac_pos (h2 _ q)
    have n1 := rpos_ne p1
    refine ⟨?_, rdiv_pos p2 p1⟩
    have e := h.sq _ q
    have e2 : φ (pr a b).1 * φ (pr a b).2 = φ a * φ b := by
      rcases pr_or a b with z | z <;> rw [z]
      simp only
      grind
    rw [e2] at e
    unfold Gq Lq
    grind
  obtain ⟨e1, p1⟩ := sq t1
  obtain ⟨e2, p2⟩ := sq t2
  obtain ⟨e3, p3⟩ := sq t3
  refine sq_eq (rdiv_pos (Rat.mul_pos p1 p2) p3) (h.pos a) ?_
  have n3 := rpos_ne p3
  have nb := rpos_ne (h.pos b)
  have nc := rpos_ne (h.pos c)
  have e : (Gq f f' a b * Gq f f' a c / Gq f f' b c) * (Gq f f' a b * Gq f f' a c / Gq f f' b c) = (Gq f f' a b * Gq f f' a b) * (Gq f f' a c * Gq f f' a c) / (Gq f f' b c * Gq f f' b c) := by grind
  rw [e, e1, e2, e3]
  grind
/-- the fractions stay behind a turning -/
theorem led_four {A B C D E A' B' C' D' E' w x y z : Rat} (a : 0 < A) (b : 0 < B) (c : 0 < C) (d : 0 < D) (e : 0 < E) (a' : 0 < A') (b' : 0 < B') (c' : 0 < C') (d' : 0 < D') (e' : 0 < E') (hw : 0 < w) (hx : 0 < x)
    (hA : A' * A' = w * y * (A * A)) (hB : B' * B' = x * z * (B * B)) (hC : C' * C' = y * x * (C * C)) (hD : D' * D' = z * w * (D * D)) (hE : E' * E' = w * x * (E * E)) {X X' : Rat} (hX : X * E = A * B + C * D) (hX' : X' * E' = A' * B' + C' * D') : X' * X' = y * z * (X * X) := by
  have p1 := Rat.mul_pos a b
  have p2 := Rat.mul_pos c d
  have p3 := Rat.mul_pos a' b'
  have p4 := Rat.mul_pos c' d'
  have s : (A' * B') * (C * D) = (C' * D') * (A * B) := by
    refine sq_eq (Rat.mul_pos p3 p2) (Rat.mul_pos p4 p1) ?_
    have u1 : (A' * B') * (C * D) * ((A' * B') * (C * D)) = (A' * A') * (B' * B') * ((C * C) * (D * D)) := by grind
    have u2 : (C' * D') * (A * B) * ((C' * D') * (A * B)) = (C' * C') * (D' * D') * ((A * A) * (B * B)) := by grind
    rw [u1, u2, hA, hB, hC, hD]
    grind
  have n1 := rpos_ne p1
  have n2 := rpos_ne (Rat.mul_pos e e)
  have n3 := rpos_ne (Rat.mul_pos (Rat.mul_pos hw hx) (Rat.mul_pos e e))
  have v1 : (A' * B') * (A' * B') = w * x * y * z * ((A * B) * (A * B)) := by
    have : (A' * B') * (A' * B') = (A' * A') * (B' * B') := by grind
    rw [this, hA, hB]
    grind
  have v2 : (A' * B' + C' * D') * (A * B) = (A' * B') * (A * B + C * D) := by grind
  have v3 : (X' * E') * (A * B) = (A' * B') * (X * E) := by rw [hX', hX]; exact v2
  have v4 : (X' * X') * (E' * E') * ((A * B) * (A * B)) = w * x * y * z * ((A * B) * (A * B)) * ((X * X) * (E * E)) := by
    rw [← v1]
    have q1 : (X' * X') * (E' * E') * ((A * B) * (A * B)) = ((X' * E') * (A * B)) * ((X' * E') * (A * B)) := by grind
    rw [q1, v3]
    grind
  rw [hE] at v4
  have n4 := mne n1 n1
  generalize A * B = K at *
  have v5 : (X' * X') * (w * x * (E * E)) = y * z * (X * X) * (w * x * (E * E)) := by
    have q2 : (K * K) * ((X' * X') * (w * x * (E * E))) = (K * K) * (y * z * (X * X) * (w * x * (E * E))) := by grind
    generalize (X' * X') * (w * x * (E * E)) = M at *
    generalize y * z * (X * X) * (w * x * (E * E)) = N at *
    generalize K * K = J at *
    grind
  generalize w * x * (E * E) = J at *
  generalize y * z * (X * X) = N at *
  generalize X' * X' = M at *
  grind

theorem cancelK {K M N : Rat} (k : K ≠ 0) (m : M ≠ 0) : N / M = K * N / (K * M) := by
  have := mne k m
  grind
theorem sqdiv (A B C D : Rat) : (A * B) / (C * D) * ((A * B) / (C * D)) = (A * A) * (B * B) / ((C * C) * (D * D)) := by
  by_cases hc : C = 0
  · subst hc; grind
  by_cases hd : D = 0
  · subst hd; grind
  have n1 := mne hc hd
  have n2 := mne (mne hc hc) (mne hd hd)
  grind
/-- a turning, what is known of it -/
structure Flip (n : Int) (l : List (Int × Int)) (p : Int × Int) (m z : Int) (l' : List (Int × Int)) : Prop where
  cut : IsCut n l
  cut' : IsCut n l'
  rope : p ∈ l
  new : pr m z ∈ l'
  ar : Around n l p m z
  ties : ∀ q, q ∈ tiesS n l' ↔ (q ∈ tiesS n l ∧ q ≠ p) ∨ q = pr m z
  mem : ∀ q, q ∈ l' ↔ (q ∈ l ∧ q ≠ p) ∨ q = pr m z
/-- the lengths behind it -/
structure Laid (n : Int) (l : List (Int × Int)) (p : Int × Int) (m z : Int) (k : Nat) (f g : Int × Int → Int × Int) : Prop where
  fr : ∀ q ∈ tiesS n l, Frac k (f q)
  off : ∀ q ∈ tiesS n l, q ≠ p → g q = f q
  on : g (pr m z) = acrV f p (pr m z)
theorem acr_q {n : Int} {l l' : List (Int × Int)} {p : Int × Int} {m z : Int} {k : Nat} {f g : Int × Int → Int × Int} (F : Flip n l p m z l') (Q : Laid n l p m z k f g) : vq (g (pr m z)) * vq (f p) = Lq f p.1 m * Lq f p.2 z + Lq f m p.2 * Lq f z p.1 := by
  have a := F.ar
  have f1 := Q.fr _ a.lm
  have f2 := Q.fr _ a.hz
  have f3 := Q.fr _ a.hm
  have f4 := Q.fr _ a.lz
  have f5 := Q.fr _ (rope_tie F.rope)
  have n5 := vq_ne f5
  rw [Q.on]
  rcases pr_or m z with e | e <;> rw [e] <;> unfold acrV
  · simp only
    rw [pr_comm m p.1, pr_comm z p.2, pr_comm m p.2, pr_comm z p.1, vq_div (addV_frac (mulV_frac f1 f2) (mulV_frac f3 f4)) f5, vq_add (mulV_frac f1 f2) (mulV_frac f3 f4), vq_mul f1 f2, vq_mul f3 f4]
    unfold Lq
    rw [pr_comm m p.2, pr_comm z p.1]
    grind
  · simp only
    rw [pr_comm z p.1, pr_comm m p.2, pr_comm z p.2, pr_comm m p.1, vq_div (addV_frac (mulV_frac f4 f3) (mulV_frac f2 f1)) f5, vq_add (mulV_frac f4 f3) (mulV_frac f2 f1), vq_mul f4 f3, vq_mul f2 f1]
    unfold Lq
    rw [pr_comm m p.2, pr_comm z p.1]
    grind
theorem Laid.new_frac {n : Int} {l l' : List (Int × Int)} {p : Int × Int} {m z : Int} {k : Nat} {f g : Int × Int → Int × Int} (F : Flip n l p m z l') (Q : Laid n l p m z k f g) : Frac (k + k + (k + k) + 1 + k) (g (pr m z)) := by
  have a := F.ar
  have f1 := Q.fr _ a.lm
  have f2 := Q.fr _ a.hz
  have f3 := Q.fr _ a.hm
  have f4 := Q.fr _ a.lz
  have f5 := Q.fr _ (rope_tie F.rope)
  rw [Q.on]
  rcases pr_or m z with e | e <;> rw [e]
  · refine acrV_frac ?_ ?_ ?_ ?_ f5 <;> simp only <;> rw [pr_comm] <;> assumption
  · refine acrV_frac ?_ ?_ ?_ ?_ f5 <;> simp only <;> rw [pr_comm] <;> assumption
theorem Laid.fracs {n : Int} {l l' : List (Int × Int)} {p : Int × Int} {m z : Int} {k : Nat} {f g : Int × Int → Int × Int} (F : Flip n l p m z l') (Q : Laid n l p m z k f g) : ∀ q ∈ tiesS n l', Frac (k + k + (k + k) + 1 + k) (g q) := fun q hq => by
  rcases (F.ties q).mp hq with ⟨h1, h2⟩ | e
  · rw [Q.off q h1 h2]
    exact (Q.fr q h1).more (by omega)
  · subst e
    exact Q.new_frac F
theorem Flip.zb {n : Int} {l l' : List (Int × Int)} {p : Int × Int} {m z : Int} (F : Flip n l p m z l') : 0 ≤ z ∧ z < n := by
  have := tie_bd F.cut F.ar.lz
  unfold pr at this
  simp only at this
  omega
theorem Stands.flip {n : Int} {l l' : List (Int × Int)} {p : Int × Int} {m z : Int} {k : Nat} {f g : Int × Int → Int × Int} {v : Int → V2} (h : Stands n l f v) (F : Flip n l p m z l') (Q : Laid n l p m z k f g) : Stands n l' g v :=
  h.turn F.cut F.rope F.ar F.zb F.ties Q.fr Q.off Q.on
theorem Led.turn {n : Int} {l l' : List (Int × Int)} {p : Int × Int} {m z : Int} {k : Nat} {f f' g g' : Int × Int → Int × Int} {φ : Int → Rat} (h : Led n l f f' φ) (F : Flip n l p m z l') (Q : Laid n l p m z k f g) (Q' : Laid n l p m z k f' g') : Led n l' g g' φ := by
  refine ⟨h.pos, fun q hq => ?_⟩
  rcases (F.ties q).mp hq with ⟨h1, h2⟩ | e
  · rw [Q.off q h1 h2, Q'.off q h1 h2]
    exact h.sq q h1
  subst e
  have a := F.ar
  have tp : p ∈ tiesS n l := rope_tie F.rope
  have hC := F.cut
  have T3 : pr m p.2 ∈ tiesS n l := by rw [pr_comm]; exact a.hm
  have T4 : pr z p.1 ∈ tiesS n l := by rw [pr_comm]; exact a.lz
  have sym : ∀ (a b : Int), φ (pr a b).1 * φ (pr a b).2 = φ a * φ b := fun a b => by
    rcases pr_or a b with z | z <;> rw [z]
    simp only
    grind
  have sq : ∀ {a b : Int}, pr a b ∈ tiesS n l → Lq f' a b * Lq f' a b = φ a * φ b * (Lq f a b * Lq f a b) := fun {a b} q => by
    have e := h.sq _ q
    rw [sym] at e
    exact e
  have P := acr_q F Q
  have P' := acr_q F Q'
  rw [sym]
  exact led_four (frac_pos (Q.fr _ a.lm)) (frac_pos (Q.fr _ a.hz)) (frac_pos (Q.fr _ T3)) (frac_pos (Q.fr _ T4)) (frac_pos (Q.fr _ tp)) (frac_pos (Q'.fr _ a.lm)) (frac_pos (Q'.fr _ a.hz)) (frac_pos (Q'.fr _ T3)) (frac_pos (Q'.fr _ T4)) (frac_pos (Q'.fr _ tp)) (h.pos p.1) (h.pos p.2)
    (sq a.lm) (sq a.hz) (sq T3) (sq T4) (h.sq _ tp) P P'
/-- where posts' fractions lead over, the ratios are the same -/
theorem led_alike {n : Int} {l : List (Int × Int)} {f f' : Int × Int → Int × Int} {φ : Int → Rat} {k : Nat} (hC : IsCut n l) (h1 : ∀ q ∈ tiesS n l, Frac k (f q)) (h2 : ∀ q ∈ tiesS n l, Frac k (f' q)) (h : Led n l f f' φ) : ∀ r ∈ l, rateL n l f r = rateL n l f' r := by
  intro r hr
  obtain ⟨u, v, hT⟩ := turns hC hr
  have a := round hT
  rw [rateL_at hT, rateL_at hT]
  generalize mOf r u v = m at *
  generalize zOf r u v = z at *
  have T3 : pr m r.2 ∈ tiesS n l := by rw [pr_comm]; exact a.hm
  have T4 : pr z r.1 ∈ tiesS n l := by rw [pr_comm]; exact a.lz
  obtain ⟨x1, y1⟩ := rateV_q (f := f) (p := r) (m := m) (z := z) (h1 _ a.lm) (h1 _ a.hz) (h1 _ T3) (h1 _ T4)
  obtain ⟨x2, y2⟩ := rateV_q (f := f') (p := r) (m := m) (z := z) (h2 _ a.lm) (h2 _ a.hz) (h2 _ T3) (h2 _ T4)
  refine vq_inj y1.low y2.low (sq_eq (frac_pos y1) (frac_pos y2) ?_)
  rw [x1, x2]
  have sq : ∀ {a b : Int}, pr a b ∈ tiesS n l → Lq f' a b * Lq f' a b = φ a * φ b * (Lq f a b * Lq f a b) := fun {a b} q => by
    have e := h.sq _ q
    have : φ (pr a b).1 * φ (pr a b).2 = φ a * φ b := by
      rcases pr_or a b with z | z <;> rw [z]
      simp only
      grind
    rw [this] at e
    exact e
  have s1 := sq a.lm
  have s2 := sq a.hz
  have s3 := sq T3
  have s4 := sq T4
  have n3 := rpos_ne (frac_pos (h1 _ T3))
  have n4 := rpos_ne (frac_pos (h1 _ T4))
  have m3 := rpos_ne (frac_pos (h2 _ T3))
  have m4 := rpos_ne (frac_pos (h2 _ T4))
  have e1 := rpos_ne (h.pos r.1)
  have e2 := rpos_ne (h.pos r.2)
  have e3 := rpos_ne (h.pos m)
  have e4 := rpos_ne (h.pos z)
  have n3 : Lq f m r.2 ≠ 0 := n3
  have n4 : Lq f z r.1 ≠ 0 := n4
  have m3 : Lq f' m r.2 ≠ 0 := m3
  have m4 : Lq f' z r.1 ≠ 0 := m4
  rw [sqdiv, sqdiv, s1, s2, s3, s4]
  have := mne n3 n3
  have := mne n4 n4
  have := mne (mne e1 e2) (mne e3 e4)
  have q1 : φ r.1 * φ m * (Lq f r.1 m * Lq f r.1 m) * (φ r.2 * φ z * (Lq f r.2 z * Lq f r.2 z)) = (φ r.1 * φ r.2 * (φ m * φ z)) * ((Lq f r.1 m * Lq f r.1 m) * (Lq f r.2 z * Lq f r.2 z)) := by grind
  have q2 : φ m * φ r.2 * (Lq f m r.2 * Lq f m r.2) * (φ z * φ r.1 * (Lq f z r.1 * Lq f z r.1)) = (φ r.1 * φ r.2 * (φ m * φ z)) * ((Lq f m r.2 * Lq f m r.2) * (Lq f z r.1 * Lq f z r.1)) := by grind
  rw [q1, q2]
  have q3 := mne (mne n3 n3) (mne n4 n4)
  exact cancelK this q3
/-- likeness goes back over a turning -/
theorem Led.back {n : Int} {l l' : List (Int × Int)} {p : Int × Int} {m z : Int} {k : Nat} {f f' g g' : Int × Int → Int × Int} {φ : Int → Rat} (h : Led n l' g g' φ) (F : Flip n l p m z l') (Q : Laid n l p m z k f g) (Q' : Laid n l p m z k f' g') : Led n l f f' φ := by
  refine ⟨h.pos, fun q hq => ?_⟩
  by_cases e : q = p
  · subst e
    have a := F.ar
    have hC := F.cut
    have T3 : pr m q.2 ∈ tiesS n l := by rw [pr_comm]; exact a.hm
    have T4 : pr z q.1 ∈ tiesS n l := by rw [pr_comm]; exact a.lz
    have m0 := a.m0
    have m1 := a.m1
    have mo := a.out
    have old : ∀ {r : Int × Int}, r ∈ tiesS n l → r ≠ q → vq (f' r) * vq (f' r) = φ r.1 * φ r.2 * (vq (f r) * vq (f r)) := fun {r} h1 h2 => by
      have := h.sq r ((F.ties r).mpr (.inl ⟨h1, h2⟩))
      rw [Q.off r h1 h2, Q'.off r h1 h2] at this
      exact this
    have sym : ∀ (a b : Int), φ (pr a b).1 * φ (pr a b).2 = φ a * φ b := fun a b => by
      rcases pr_or a b with z | z <;> rw [z]
      simp only
      grind
    have sq : ∀ {a b : Int}, pr a b ∈ tiesS n l → pr a b ≠ q → Lq f' a b * Lq f' a b = φ a * φ b * (Lq f a b * Lq f a b) := fun {a b} h1 h2 => by
      have e := old h1 h2
      rw [sym] at e
      exact e
    have n1 : pr q.1 m ≠ q := ne_pr (by omega)
    have n2 : pr q.2 z ≠ q := ne_pr (by omega)
    have n3 : pr m q.2 ≠ q := ne_pr (by omega)
    have n4 : pr z q.1 ≠ q := ne_pr (by omega)
    have P := acr_q F Q
    have P' := acr_q F Q'
    have s5 := h.sq _ ((F.ties _).mpr (.inr rfl))
    rw [sym] at s5
    have g5 := frac_pos (Q.new_frac F)
    have g6 := frac_pos (Q'.new_frac F)
    have s1 := sq a.lm n1
    have s2 := sq a.hz n2
    have s3 := sq T3 n3
    have s4 := sq T4 n4
    exact led_four (A := Lq f q.1 m) (B := Lq f q.2 z) (C := Lq f z q.1) (D := Lq f m q.2) (E := vq (g (pr m z))) (A' := Lq f' q.1 m) (B' := Lq f' q.2 z) (C' := Lq f' z q.1) (D' := Lq f' m q.2) (E' := vq (g' (pr m z))) (w := φ m) (x := φ z) (y := φ q.1) (z := φ q.2)
      (frac_pos (Q.fr _ a.lm)) (frac_pos (Q.fr _ a.hz)) (frac_pos (Q.fr _ T4)) (frac_pos (Q.fr _ T3)) g5 (frac_pos (Q'.fr _ a.lm)) (frac_pos (Q'.fr _ a.hz)) (frac_pos (Q'.fr _ T4)) (frac_pos (Q'.fr _ T3)) g6 (h.pos m) (h.pos z)
      (by rw [s1]; grind) (by rw [s2]; grind) (by rw [s4]; grind) (by rw [s3]; grind) s5 (by rw [Rat.mul_comm, P]; grind) (by rw [Rat.mul_comm, P']; grind)
  · have := h.sq q ((F.ties q).mpr (.inl ⟨hq, e⟩))
    rw [Q.off q hq e, Q'.off q hq e] at this
    exact this

/-! ### over, with bounds of its own for tops and bottoms -/
def sp_overF (K : PySem.W.Frag) : Sp := fun vs H Q _ => ∃ (x y : V) (p q : Int × Int) (s t s' t' : Nat), vs = [x, y] ∧ PrAt K H x p ∧ PrAt K H y q ∧ F2 s t p ∧ F2 s' t' q ∧ 0 < s ∧ 0 < t ∧ 0 < s' ∧ 0 < t' ∧ s + t' ≤ 100000 ∧ t + s' ≤ 8990 ∧
  ∀ H' v, Same H H' → PrAt K H' v (divV p q) → Q v H'
theorem FD.other {H : Hp} {D d : Addr} {dom : List (Int × Int)} {f : Int × Int → Int × Int} {o x : HO} (h : FD K H D dom f) (hd : H d = some o) (ne : D ≠ d) (nt : ∀ ys, o ≠ .tup ys) : FD K (upd H d x) D dom f := by
  obtain ⟨⟨kvs, e, r⟩, nd, sm⟩ := h
  refine ⟨⟨kvs, by rw [upd_ne ne]; exact e, Ents.tups (fun t ys q => ?_) r⟩, nd, sm⟩
  rw [upd_ne (ne_of q hd (fun z => nt ys z.symm))]
  exact q

/-! ### fractions of any sign, told by their worth -/
def frq (r : Rat) : Int × Int := (r.num, (r.den : Int))
theorem frq_low (r : Rat) : Low (frq r).1 (frq r).2 := ⟨Int.natCast_pos.mpr r.den_pos, by show Nat.gcd r.num.natAbs ((r.den : Int)).natAbs = 1; rw [Int.natAbs_natCast]; exact r.reduced⟩
theorem vq_frq (r : Rat) : vq (frq r) = r := by
  show (r.num : Rat) / ((r.den : Int) : Rat) = r
  rw [← Rat.divInt_eq_div, Rat.num_divInt_den]
theorem frq_neg (r : Rat) : frq (-r) = (-(frq r).1, (frq r).2) := by
  unfold frq
  rw [Rat.neg_num, Rat.neg_den]
theorem frq_zero : frq 0 = (0, 1) := rfl
theorem frq_one : frq 1 = (1, 1) := rfl
theorem frq_vq {x : Int × Int} (h : Low x.1 x.2) : frq (vq x) = x := vq_inj (frq_low _) h (vq_frq _)
theorem frq_inj {a b : Rat} (h : frq a = frq b) : a = b := by rw [← vq_frq a, h, vq_frq]
structure Bq (t b : Nat) (r : Rat) : Prop where
  top : (frq r).1.natAbs < 2 ^ t
  bot : (frq r).2.natAbs < 2 ^ b
theorem Bq.more {t b t' b' : Nat} {r : Rat} (h : Bq t b r) (l1 : t ≤ t') (l2 : b ≤ b') : Bq t' b' r :=
  ⟨Nat.lt_of_lt_of_le h.top (Nat.pow_le_pow_right (by decide) l1), Nat.lt_of_lt_of_le h.bot (Nat.pow_le_pow_right (by decide) l2)⟩
theorem Bq.neg {t b : Nat} {r : Rat} (h : Bq t b r) : Bq t b (-r) := by
  refine ⟨?_, ?_⟩
  · rw [frq_neg, Int.natAbs_neg]; exact h.top
  · rw [frq_neg]; exact h.bot
theorem Bq.zero : Bq 1 1 0 := ⟨by rw [frq_zero]; decide, by rw [frq_zero]; decide⟩
theorem F2.bq {t b : Nat} {x : Int × Int} (h : F2 t b x) : Bq t b (vq x) := by
  refine ⟨?_, ?_⟩
  · rw [frq_vq h.low]; exact (natAbs_lt_pow h.top).mpr h.bt
  · rw [frq_vq h.low]; exact (natAbs_lt_pow h.low.pos).mpr h.bb
theorem low_div {t b : Int} (h : b ≠ 0) : lowI t b = frq ((t : Rat) / (b : Rat)) := vq_inj (lowI_ok h).1 (frq_low _) (by rw [vq_low h, vq_frq])
theorem bq_div {t b : Int} {s k : Nat} (h : b ≠ 0) (h1 : t.natAbs < 2 ^ s) (h2 : b.natAbs < 2 ^ k) : Bq s k ((t : Rat) / (b : Rat)) := by
  obtain ⟨L, e, e1, e2⟩ := lowI_ok (t := t) h
  rw [low_div h] at e1 e2
  exact ⟨Nat.lt_of_le_of_lt e2 h1, Nat.lt_of_le_of_lt e1 h2⟩
theorem q_at (r : Rat) : r = ((frq r).1 : Rat) / ((frq r).2 : Rat) := (vq_frq r).symm
theorem q_pos (r : Rat) : 0 < (frq r).2 := (frq_low r).pos
theorem q_ne (r : Rat) : ((frq r).2 : Rat) ≠ 0 := cast_ne (by have := q_pos r; omega)
theorem q_top {r : Rat} (h : r ≠ 0) : (frq r).1 ≠ 0 := fun e => h (by rw [q_at r, e]; show (0 : Rat) / _ = 0; grind)
theorem mul_at (a b : Rat) : a * b = (((frq a).1 * (frq b).1 : Int) : Rat) / (((frq a).2 * (frq b).2 : Int) : Rat) := by
  have h1 := q_at a
  have h2 := q_at b
  have n1 := q_ne a
  have n2 := q_ne b
  rw [Rat.intCast_mul, Rat.intCast_mul]
  generalize ((frq a).1 : Rat) = p at *
  generalize ((frq b).1 : Rat) = q at *
  generalize ((frq a).2 : Rat) = u at *
  generalize ((frq b).2 : Rat) = v at *
  subst h1; subst h2
  grind
theorem add_at (a b : Rat) : a + b = (((frq a).1 * (frq b).2 + (frq b).1 * (frq a).2 : Int) : Rat) / (((frq a).2 * (frq b).2 : Int) : Rat) := by
  have h1 := q_at a
  have h2 := q_at b
  have n1 := q_ne a
  have n2 := q_ne b
  rw [Rat.intCast_add, Rat.intCast_mul, Rat.intCast_mul, Rat.intCast_mul]
  generalize ((frq a).1 : Rat) = p at *
  generalize ((frq b).1 : Rat) = q at *
  generalize ((frq a).2 : Rat) = u at *
  generalize ((frq b).2 : Rat) = v at *
  subst h1; subst h2
  grind
theorem div_at {a b : Rat} (hb : b ≠ 0) : a / b = (((frq a).1 * (frq b).2 : Int) : Rat) / (((frq a).2 * (frq b).1 : Int) : Rat) := by
  have h1 := q_at a
  have h2 := q_at b
  have n1 := q_ne a
  have n2 := q_ne b
  have n3 := cast_ne (q_top hb)
  rw [Rat.intCast_mul, Rat.intCast_mul]
  generalize ((frq a).1 : Rat) = p at *
  generalize ((frq b).1 : Rat) = q at *
  generalize ((frq a).2 : Rat) = u at *
  generalize ((frq b).2 : Rat) = v at *
  subst h1; subst h2
  grind
theorem pos_mul (a b : Rat) : (frq a).2 * (frq b).2 ≠ 0 := by have := Int.mul_pos (q_pos a) (q_pos b); omega
theorem pos_div (a : Rat) {b : Rat} (h : b ≠ 0) : (frq a).2 * (frq b).1 ≠ 0 := fun e => by
  rcases Int.mul_eq_zero.mp e with z | z
  · have := q_pos a; omega
  · exact q_top h z
theorem mulV_q (a b : Rat) : mulV (frq a) (frq b) = frq (a * b) := by unfold mulV; rw [low_div (pos_mul a b), ← mul_at]
theorem addV_q (a b : Rat) : addV (frq a) (frq b) = frq (a + b) := by unfold addV; rw [low_div (pos_mul a b), ← add_at]
theorem divV_q (a : Rat) {b : Rat} (h : b ≠ 0) : divV (frq a) (frq b) = frq (a / b) := by unfold divV; rw [low_div (pos_div a h), ← div_at h]
theorem Bq.mul {s t s' t' : Nat} {a b : Rat} (h : Bq s t a) (k : Bq s' t' b) : Bq (s + s') (t + t') (a * b) := by
  rw [mul_at]
  exact bq_div (pos_mul a b) (lt_mul h.top k.top (Nat.le_refl _)) (lt_mul h.bot k.bot (Nat.le_refl _))
theorem Bq.div {s t s' t' : Nat} {a b : Rat} (h : Bq s t a) (k : Bq s' t' b) (n : b ≠ 0) : Bq (s + t') (t + s') (a / b) := by
  rw [div_at n]
  exact bq_div (pos_div a n) (lt_mul h.top k.bot (Nat.le_refl _)) (lt_mul h.bot k.top (Nat.le_refl _))
theorem Bq.add {s t s' t' m : Nat} {a b : Rat} (h : Bq s t a) (k : Bq s' t' b) (l1 : s + t' ≤ m) (l2 : s' + t ≤ m) : Bq (m + 1) (t + t') (a + b) := by
  rw [add_at]
  exact bq_div (pos_mul a b) (lt_add (a := m) (lt_mul h.top k.bot l1) (lt_mul k.top h.bot l2) (Nat.le_refl _)) (lt_mul h.bot k.bot (Nat.le_refl _))
/-- two fractions are handed in, told by their worth -/
def sp_binQ (K : PySem.W.Frag) (F : Rat → Rat → Rat) (G : Rat → Prop) : Sp := fun vs H Q _ => ∃ (x y : V) (a b : Rat), vs = [x, y] ∧ PrAt K H x (frq a) ∧ PrAt K H y (frq b) ∧ Bq 5000 4490 a ∧ Bq 5000 4490 b ∧ G b ∧
  ∀ H' v, Same H H' → PrAt K H' v (frq (F a b)) → Q v H'
theorem ok__law_mulQ (T : Env K mg) (su : SupP flM P) : FnOk P w K mg base CX0 2 T.a__law_mul T.fd__law_mul ["_law_one", "_law_other"] (sp_binQ K (· * ·) fun _ => True) := by
  refine T.F__law_mul.ok sc__law_mul (fun vs H Q E h => ?_) (fun cdv A outer s H vs Q E hr h => ?_)
  · obtain ⟨x, y, p, q, rfl, _⟩ := h
    rfl
  · obtain ⟨x, y, p, q, rfl, hx, hy, fp, fq, _, k⟩ := h
    refine ⟨_, (pss_one (ps_ret (pe_call (ok__law_low T su) (hr.mono (by decide)) (by rfl) T.g__law_low T.F__law_low.kp T.b__law_low .nil pass0 (pa_cons (pe_op op_mulU (pe_ix ix_tup (pv 0) pe_int (fun _ _ => rfl)) (pe_ix ix_tup (pv 1) pe_int (fun _ _ => rfl))) (pa_cons (pe_op op_mulU (pe_ix ix_tup (pv 0) pe_int (fun _ _ => rfl)) (pe_ix ix_tup (pv 1) pe_int (fun _ _ => rfl))) pa_nil))))), ?_⟩
    obtain ⟨a, rfl, ha⟩ := hx.sq
    obtain ⟨b, rfl, hb⟩ := hy.sq
    refine ⟨_, rfl, a, _, _, _, rfl, rfl, ha, atI_nat (j := 0) rfl, _, rfl, b, _, _, _, rfl, rfl, hb, atI_nat (j := 0) rfl, _, _, rfl, rfl, mulW fp.top fq.top (by decide) (by decide) (by decide), ?_⟩
    refine ⟨_, rfl, a, _, _, _, rfl, rfl, ha, atI_nat (j := 1) rfl, _, rfl, b, _, _, _, rfl, rfl, hb, atI_nat (j := 1) rfl, _, _, rfl, rfl, mulW fp.bot fq.bot (by decide) (by decide) (by decide), ?_⟩
    rw [← mulV_q] at k
    exact ⟨_, _, rfl, pos_mul p q, log_small (by decide) (lt_mul (n := 8999) fp.bot fq.bot (by decide)) (by decide), bin_out k⟩
theorem ok__law_addQ (T : Env K mg) (su : SupP flM P) : FnOk P w K mg base CX0 2 T.a__law_add T.fd__law_add ["_law_one", "_law_other"] (sp_binQ K (· + ·) fun _ => True) := by
  refine T.F__law_add.ok sc__law_add (fun vs H Q E h => ?_) (fun cdv A outer s H vs Q E hr h => ?_)
  · obtain ⟨x, y, p, q, rfl, _⟩ := h
    rfl
  · obtain ⟨x, y, p, q, rfl, hx, hy, fp, fq, _, k⟩ := h
    refine ⟨_, (pss_one (ps_ret (pe_call (ok__law_low T su) (hr.mono (by decide)) (by rfl) T.g__law_low T.F__law_low.kp T.b__law_low .nil pass0 (pa_cons (pe_op op_add (pe_op op_mulU (pe_ix ix_tup (pv 0) pe_int (fun _ _ => rfl)) (pe_ix ix_tup (pv 1) pe_int (fun _ _ => rfl))) (pe_op op_mulU (pe_ix ix_tup (pv 1) pe_int (fun _ _ => rfl)) (pe_ix ix_tup (pv 0) pe_int (fun _ _ => rfl)))) (pa_cons (pe_op op_mulU (pe_ix ix_tup (pv 0) pe_int (fun _ _ => rfl)) (pe_ix ix_tup (pv 1) pe_int (fun _ _ => rfl))) pa_nil))))), ?_⟩
    obtain ⟨a, rfl, ha⟩ := hx.sq
    obtain ⟨b, rfl, hb⟩ := hy.sq
    refine ⟨_, rfl, a, _, _, _, rfl, rfl, ha, atI_nat (j := 0) rfl, _, rfl, b, _, _, _, rfl, rfl, hb, atI_nat (j := 1) rfl, _, _, rfl, rfl, mulW fp.top fq.bot (by decide) (by decide) (by decide), ?_⟩
    refine ⟨_, rfl, b, _, _, _, rfl, rfl, hb, atI_nat (j := 0) rfl, _, rfl, a, _, _, _, rfl, rfl, ha, atI_nat (j := 1) rfl, _, _, rfl, rfl, mulW fq.top fp.bot (by decide) (by decide) (by decide), _, _, rfl, rfl, ?_⟩
    refine ⟨_, rfl, a, _, _, _, rfl, rfl, ha, atI_nat (j := 1) rfl, _, rfl, b, _, _, _, rfl, rfl, hb, atI_nat (j := 1) rfl, _, _, rfl, rfl, mulW fp.bot fq.bot (by decide) (by decide) (by decide), ?_⟩
    rw [← addV_q] at k
    exact ⟨_, _, rfl, pos_mul p q, log_small (by decide) (lt_mul (n := 8999) fp.bot fq.bot (by decide)) (by decide), bin_out k⟩
/-- a length with the sign of its posts' order -/
def sp_signed (K : PySem.W.Frag) : Sp := fun vs H Q _ => ∃ (d : Addr) (a b : Int) (dom : List (Int × Int)) (f : Int × Int → Int × Int) (r : Rat), vs = [.ref d, .int a, .int b] ∧ FD K H d dom f ∧ pr a b ∈ dom ∧ a ≠ b ∧ f (pr a b) = frq (if a < b then r else -r) ∧
  ∀ H' v, Same H H' → PrAt K H' v (frq r) → Q v H'
/-! ### the law's places: told by the spreads W of the posts -/
def Wd (v : Int → V2) (i j : Int) : Rat := det (v i) (v j)
theorem Wd.neg (v : Int → V2) (i j : Int) : Wd v j i = -Wd v i j := by unfold Wd det; grind
theorem Wd.self (v : Int → V2) (i : Int) : Wd v i i = 0 := by unfold Wd det; grind
theorem Wd.pl (v : Int → V2) (a b c d : Int) : Wd v a c * Wd v b d = Wd v a b * Wd v c d + Wd v a d * Wd v b c := pluecker _ _ _ _
structure LawW (n : Int) (cut : List (Int × Int)) (f : Int × Int → Int × Int) (v : Int → V2) : Prop where
  on : ∀ q ∈ tiesS n cut, f q = frq (Wd v q.1 q.2)
  tb : ∀ q ∈ tiesS n cut, Bq 50 40 (Wd v q.1 q.2)
  pos : ∀ i j, 0 ≤ i → i < j → j < n → 0 < Wd v i j
  f2 : ∀ i j, 0 ≤ i → i < j → j < n → F2 1762 1002 (frq (Wd v i j))
theorem LawW.bd {n : Int} {cut : List (Int × Int)} {f : Int × Int → Int × Int} {v : Int → V2} (h : LawW n cut f v) {i j : Int} (i0 : 0 ≤ i) (i1 : i < n) (j0 : 0 ≤ j) (j1 : j < n) : Bq 1762 1002 (Wd v i j) := by
  rcases Int.lt_trichotomy i j with e | e | e
  · have := (h.f2 i j i0 e j1).bq
    rw [vq_frq] at this
    exact this
  · subst e
    rw [Wd.self]
    exact Bq.zero.more (by decide) (by decide)
  · have := (h.f2 j i j0 e i1).bq
    rw [vq_frq] at this
    rw [Wd.neg]
    exact this.neg
theorem LawW.ne {n : Int} {cut : List (Int × Int)} {f : Int × Int → Int × Int} {v : Int → V2} (h : LawW n cut f v) {i j : Int} (i0 : 0 ≤ i) (i1 : i < n) (j0 : 0 ≤ j) (j1 : j < n) (ij : i ≠ j) : Wd v i j ≠ 0 := by
  rcases Int.lt_or_lt_of_ne ij with e | e
  · exact rpos_ne (h.pos i j i0 e j1)
  · rw [Wd.neg]
    have := h.pos j i j0 e i1
    grind
theorem LawW.first {n : Int} {cut : List (Int × Int)} {f : Int × Int → Int × Int} {v : Int → V2} (h : LawW n cut f v) {z l0 l1 : Int} (z0 : 0 ≤ z) (z1 : z < n) (a0 : 0 ≤ l0) (b1 : l1 < n) (ab : l0 < l1) : Bq 2764 2764 (Wd v z l1 / Wd v l0 l1) :=
  ((h.bd z0 z1 (by omega) b1).div (h.bd a0 (by omega) (by omega) b1) (h.ne a0 (by omega) (by omega) b1 (by omega))).more (by decide) (by decide)
theorem stands_law {n : Int} {cut : List (Int × Int)} {f : Int × Int → Int × Int} {v : Int → V2} (hC : IsCut n cut) (h : Stands n cut f v) (hf : ∀ q ∈ tiesS n cut, F2 50 40 (f q)) (hv : ∀ z, Sized 501 380 (v z)) : LawW n cut f v := by
  refine ⟨fun q hq => ?_, fun q hq => ?_, h.pos, fun i j i0 ij jn => ?_⟩
  · have := h.on q hq
    show _ = frq (det (v q.1) (v q.2))
    rw [← this, frq_vq (hf q hq).low]
  · show Bq 50 40 (det (v q.1) (v q.2))
    rw [← h.on q hq]
    exact (hf q hq).bq
  · exact (det_f2 (hv i) (hv j) (frq_low _) (h.pos i j i0 ij jn) (vq_frq _)).more (by decide) (by decide)
theorem Sized.more {d m d' m' : Nat} {v : V2} (h : Sized d m v) (l1 : d ≤ d') (l2 : m ≤ m') : Sized d' m' v := by
  obtain ⟨⟨k, k0, k1, k2⟩, u⟩ := h
  exact ⟨⟨k, k0, Int.lt_of_lt_of_le k1 (ipow_le l1), k2⟩, u.le (Rat.intCast_le_intCast.mpr (ipow_le l2))⟩
/-- the two shares of a post between two others -/
theorem share_first {n : Int} {cut : List (Int × Int)} {f : Int × Int → Int × Int} {v : Int → V2} (h : LawW n cut f v) {p a b l0 l1 : Int} (a0 : 0 ≤ a) (a1 : a < n) (b0 : 0 ≤ b) (b1 : b < n) (ab : a ≠ b) (x0 : 0 ≤ l0) (x1 : l1 < n) (xl : l0 < l1) :
    (Wd v a l1 / Wd v l0 l1) * (Wd v p b / Wd v a b) + (Wd v b l1 / Wd v l0 l1) * (Wd v a p / Wd v a b) = Wd v p l1 / Wd v l0 l1 := by
  have n1 := h.ne a0 a1 b0 b1 ab
  have n2 := h.ne x0 (by omega) (by omega) x1 (by omega : l0 ≠ l1)
  have e : Wd v a l1 * Wd v p b + Wd v b l1 * Wd v a p = Wd v p l1 * Wd v a b := by unfold Wd det; grind
  generalize Wd v a l1 = A at *
  generalize Wd v p b = B at *
  generalize Wd v b l1 = C at *
  generalize Wd v a p = D at *
  generalize Wd v p l1 = E at *
  generalize Wd v a b = F at *
  generalize Wd v l0 l1 = G at *
  have e2 : A / G * (B / F) + C / G * (D / F) = (A * B + C * D) / (G * F) := by
    have := mne n2 n1
    grind
  rw [e2, e]
  have := mne n2 n1
  grind
theorem share_second {n : Int} {cut : List (Int × Int)} {f : Int × Int → Int × Int} {v : Int → V2} (h : LawW n cut f v) {p a b l0 : Int} (a0 : 0 ≤ a) (a1 : a < n) (b0 : 0 ≤ b) (b1 : b < n) (ab : a ≠ b) :
    Wd v l0 a * (Wd v p b / Wd v a b) + Wd v l0 b * (Wd v a p / Wd v a b) = Wd v l0 p := by
  have n1 := h.ne a0 a1 b0 b1 ab
  have e : Wd v l0 a * Wd v p b + Wd v l0 b * Wd v a p = Wd v l0 p * Wd v a b := by unfold Wd det; grind
  generalize Wd v l0 a = A at *
  generalize Wd v p b = B at *
  generalize Wd v l0 b = C at *
  generalize Wd v a p = D at *
  generalize Wd v l0 p = E at *
  generalize Wd v a b = F at *
  have e2 : A * (B / F) + C * (D / F) = (A * B + C * D) / F := by grind
  rw [e2, e]
  grind
/-- two places' spread is the spread of the posts -/
theorem spread_back {n : Int} {cut : List (Int × Int)} {f : Int × Int → Int × Int} {v : Int → V2} (h : LawW n cut f v) {i k l0 l1 : Int} (x0 : 0 ≤ l0) (x1 : l1 < n) (xl : l0 < l1) :
    (Wd v i l1 / Wd v l0 l1) * Wd v l0 k + -((Wd v k l1 / Wd v l0 l1) * Wd v l0 i) = Wd v i k := by
  have n2 := h.ne x0 (by omega) (by omega) x1 (by omega : l0 ≠ l1)
  have e : Wd v i l1 * Wd v l0 k - Wd v k l1 * Wd v l0 i = Wd v i k * Wd v l0 l1 := by unfold Wd det; grind
  generalize Wd v i l1 = A at *
  generalize Wd v l0 k = B at *
  generalize Wd v k l1 = C at *
  generalize Wd v l0 i = D at *
  generalize Wd v i k = E at *
  generalize Wd v l0 l1 = G at *
  have e2 : A / G * B + -(C / G * D) = (A * B - C * D) / G := by grind
  rw [e2, e]
  grind
theorem tie_adj0 {n : Int} {cut : List (Int × Int)} (h3 : 3 ≤ n) : TieAdj (tiesS n cut) (rng n) := by
  rintro a b ha hb ⟨ab, h⟩
  have a1 := mem_rng.mp ha
  have b1 := mem_rng.mp hb
  refine sort2_mem.mpr (List.mem_append.mpr (.inl ?_))
  unfold sidesL
  rw [List.mem_append]
  rcases h with h | h
  · refine .inl (List.mem_map.mpr ⟨a, mem_rng.mpr (by omega), ?_⟩)
    have := h (a + 1) (mem_rng.mpr (by omega))
    rw [show b = a + 1 by omega]
  · refine .inr (List.mem_singleton.mpr ?_)
    have h1 := h 0 (mem_rng.mpr (by omega))
    have h2 := h (n - 1) (mem_rng.mpr (by omega))
    rw [show a = 0 by omega, show b = n - 1 by omega]
theorem sgn_of {n : Int} {cut : List (Int × Int)} {f : Int × Int → Int × Int} {v : Int → V2} (h : LawW n cut f v) {a b : Int} (t : pr a b ∈ tiesS n cut) : f (pr a b) = frq (if a < b then Wd v a b else -Wd v a b) := by
  rw [h.on _ t]
  show frq (Wd v (min a b) (max a b)) = _
  by_cases e : a < b
  · rw [if_pos e, Int.min_eq_left (by omega), Int.max_eq_right (by omega)]
  · rw [if_neg e, Int.min_eq_right (by omega), Int.max_eq_left (by omega), Wd.neg]
theorem bq_of {n : Int} {cut : List (Int × Int)} {f : Int × Int → Int × Int} {v : Int → V2} (h : LawW n cut f v) {a b : Int} (t : pr a b ∈ tiesS n cut) : Bq 50 40 (Wd v a b) := by
  have := h.tb _ t
  have this : Bq 50 40 (Wd v (min a b) (max a b)) := this
  by_cases e : a < b
  · rw [Int.min_eq_left (by omega), Int.max_eq_right (by omega)] at this
    exact this
  · rw [Int.min_eq_right (by omega), Int.max_eq_left (by omega)] at this
    rw [Wd.neg]
    exact this.neg
theorem pr_bd {n : Int} {cut : List (Int × Int)} (hC : IsCut n cut) {a b : Int} (t : pr a b ∈ tiesS n cut) : 0 ≤ a ∧ a < n ∧ 0 ≤ b ∧ b < n ∧ a ≠ b := by
  have h : 0 ≤ min a b ∧ min a b < max a b ∧ max a b < n := tie_bd hC t
  omega

/-- the place of a post, as it stands in the law's dict -/
def Plc (K : PySem.W.Frag) (H : Hp) (v : Int → V2) (l0 l1 z : Int) (u : V) : Prop := ∃ (t : Addr) (a b : V), u = .ref t ∧ H t = some (.tup [a, b]) ∧ PrAt K H a (frq (Wd v z l1 / Wd v l0 l1)) ∧ PrAt K H b (frq (Wd v l0 z))
theorem Plc.tups {H H' : Hp} {v : Int → V2} {l0 l1 z : Int} {u : V} (s : TupS H H') (h : Plc K H v l0 l1 z u) : Plc K H' v l0 l1 z u := by
  obtain ⟨t, a, b, e, ht, ⟨x, ex, hx⟩, ⟨y, ey, hy⟩⟩ := h
  exact ⟨t, a, b, e, s _ _ ht, ⟨x, ex, s _ _ hx⟩, ⟨y, ey, s _ _ hy⟩⟩
def Plcs (K : PySem.W.Frag) (H : Hp) (D : Addr) (n : Int) (v : Int → V2) (l0 l1 : Int) : Prop := ∃ kvs : List (Key × V), H D = some (.dK kvs) ∧ ∀ z, 0 ≤ z → z < n → ∃ u, valV kvs (.inl z) = some u ∧ Plc K H v l0 l1 z u
theorem Plcs.mono {H H' : Hp} {D : Addr} {n : Int} {v : Int → V2} {l0 l1 : Int} (s : Same H H') (h : Plcs K H D n v l0 l1) : Plcs K H' D n v l0 l1 := by
  obtain ⟨kvs, e, h⟩ := h
  exact ⟨kvs, s _ _ e, fun z a b => let ⟨u, g, p⟩ := h z a b; ⟨u, g, p.tups (TupS.of s)⟩⟩
structure StS (K : PySem.W.Frag) (H0 H : Hp) (D q : Addr) (zs : List V) (ms : List Tri3) (v : Int → V2) (l0 l1 : Int) (m : Nat) (C : Int → Prop) : Prop where
  s : Same H0 H
  q : H q = some (.lst zs)
  t : TrL H zs ms
  f : ∃ kvs : List (Key × V), H D = some (.dK kvs) ∧ kvs.length ≤ m ∧ ∀ z, C z → ∃ u, valV kvs (.inl z) = some u ∧ Plc K H v l0 l1 z u
theorem StS.mono {H0 H H' : Hp} {D q : Addr} {zs : List V} {ms : List Tri3} {v : Int → V2} {l0 l1 : Int} {m : Nat} {C : Int → Prop} (h : StS K H0 H D q zs ms v l0 l1 m C) (s : Same H H') : StS K H0 H' D q zs ms v l0 l1 m C := by
  obtain ⟨kvs, e1, e2, e3⟩ := h.f
  exact ⟨h.s.trans s, s _ _ h.q, h.t.tups (TupS.of s), kvs, s _ _ e1, e2, fun z hz => let ⟨u, g, p⟩ := e3 z hz; ⟨u, g, p.tups (TupS.of s)⟩⟩
theorem StS.put {H0 H : Hp} {D q : Addr} {zs : List V} {ms : List Tri3} {v : Int → V2} {l0 l1 : Int} {m : Nat} {C : Int → Prop} {p : Int} {u : V} (h : StS K H0 H D q zs ms v l0 l1 m C) (h0 : H0 D = none) (hu : Plc K H v l0 l1 p u) :
    ∃ kvs : List (Key × V), H D = some (.dK kvs) ∧ kvs.length ≤ m ∧ StS K H0 (upd H D (.dK (putK kvs (.inl p) u))) D q zs ms v l0 l1 (m + 1) (fun z => C z ∨ z = p) := by
  obtain ⟨kvs, e1, e2, e3⟩ := h.f
  have ts : TupS H (upd H D (.dK (putK kvs (.inl p) u))) := fun t xs e => by
    rw [upd_ne (ne_of e e1 (fun z => nomatch z))]
    exact e
  refine ⟨kvs, e1, e2, same_put h.s h0, ?_, h.t.tups ts, _, upd_same, ?_, fun z hz => ?_⟩
  · rw [upd_ne (ne_of h.q e1 (fun z => nomatch z))]
    exact h.q
  · unfold putK
    split
    · rw [List.length_map]; omega
    · rw [List.length_append, List.length_singleton]; omega
  · rw [valV_put]
    by_cases e : z = p
    · subst e
      exact ⟨u, if_pos rfl, hu.tups ts⟩
    · rw [if_neg (fun k => e (Sum.inl.inj k))]
      obtain ⟨w, a, b⟩ := e3 z (hz.resolve_right e)
      exact ⟨w, a, b.tups ts⟩
theorem All2.rev {α β : Type} {R : α → β → Prop} {xs : List α} {ys : List β} (h : All2 R xs ys) : All2 R xs.reverse ys.reverse := by
  induction h with
  | nil => exact .nil
  | cons h _ ih =>
    rw [List.reverse_cons, List.reverse_cons]
    exact ih.app (.one h)
theorem ints_flat (l : List Int) : (l.map V.int).all flatV = true := by
  rw [List.all_map, List.all_eq_true]
  exact fun _ _ => rfl
theorem inV_ints (z : Int) (l : List Int) : inV (V.int z) (l.map V.int) = decide (z ∈ l) := by
  unfold inV
  rw [List.any_map, Bool.eq_iff_iff, List.any_eq_true, decide_eq_true_eq]
  constructor
  · rintro ⟨x, hx, e⟩
    have e : (x == z) = true := e
    rw [beq_iff_eq] at e
    exact e ▸ hx
  · intro h
    exact ⟨z, h, by show (z == z) = true; exact beq_self_eq_true z⟩
def sp_lstood (K : PySem.W.Frag) : Sp := fun vs H Q _ => ∃ (n : Int) (o d : Addr) (xs : List V) (es : List Tri3) (cut dom : List (Int × Int)) (f : Int × Int → Int × Int) (v : Int → V2), vs = [.int n, .ref o, .ref d] ∧ 3 ≤ n ∧ n ≤ 12 ∧ H o = some (.lst xs) ∧ TrL H xs es ∧ es.length ≤ 9 ∧ (∃ F, EarSeq (rng n) es F) ∧ IsCut n cut ∧ (∀ e ∈ es, earR e ∈ cut) ∧
  FD K H d dom f ∧ (∀ p, p ∈ dom ↔ p ∈ tiesS n cut) ∧ LawW n cut f v ∧ ∀ H' D l0 l1, Same H H' → H D = none → 0 ≤ l0 → l0 < l1 → l1 < n → Plcs K H' D n v l0 l1 → Q (.ref D) H'
/-- the length that the law's places give -/
def sp_spread (K : PySem.W.Frag) : Sp := fun vs H Q _ => ∃ (n : Int) (cut : List (Int × Int)) (f : Int × Int → Int × Int) (v : Int → V2) (l0 l1 i k : Int) (u w : V), vs = [u, w] ∧ LawW n cut f v ∧ 0 ≤ l0 ∧ l0 < l1 ∧ l1 < n ∧ 0 ≤ i ∧ i < n ∧ 0 ≤ k ∧ k < n ∧ Plc K H v l0 l1 i u ∧ Plc K H v l0 l1 k w ∧
  ∀ H' x, Same H H' → PrAt K H' x (frq (Wd v i k)) → Q x H'
def sp_between (K : PySem.W.Frag) : Sp := fun vs H Q _ => ∃ (n : Int) (cut : List (Int × Int)) (f : Int × Int → Int × Int) (v : Int → V2) (D : Addr) (l0 l1 a b : Int), vs = [.ref D, .int a, .int b] ∧ LawW n cut f v ∧ 0 ≤ l0 ∧ l0 < l1 ∧ l1 < n ∧ 0 ≤ a ∧ a < n ∧ 0 ≤ b ∧ b < n ∧ Plcs K H D n v l0 l1 ∧
  ∀ H' x, Same H H' → PrAt K H' x (frq (Wd v (min a b) (max a b))) → Q x H'
/-! ### rows of fractions, each row a list of its own -/
structure RowsI (K : PySem.W.Frag) (H0 H : Hp) (R : Addr) (rs : List Addr) (w : Nat) (g : Nat → Nat → Rat) : Prop where
  s : Same H0 H
  top : H R = some (.lst (rs.map V.ref))
  nd : rs.Nodup
  nR : R ∉ rs
  new : ∀ r ∈ rs, H0 r = none
  R0 : H0 R = none
  row : ∀ i r, rs[i]? = some r → ∃ xs : List V, H r = some (.lst xs) ∧ xs.length = w ∧ ∀ k x, xs[k]? = some x → PrAt K H x (frq (g i k))
theorem RowsI.mono {H0 H H' : Hp} {R : Addr} {rs : List Addr} {w : Nat} {g : Nat → Nat → Rat} (h : RowsI K H0 H R rs w g) (s : Same H H') : RowsI K H0 H' R rs w g :=
  ⟨h.s.trans s, s _ _ h.top, h.nd, h.nR, h.new, h.R0, fun i r hr => let ⟨xs, e, l, q⟩ := h.row i r hr; ⟨xs, s _ _ e, l, fun k x hx => (q k x hx).mono s⟩⟩
theorem RowsI.val {H0 H : Hp} {R : Addr} {rs : List Addr} {w : Nat} {g g' : Nat → Nat → Rat} (h : RowsI K H0 H R rs w g) (e : ∀ i k, i < rs.length → k < w → g i k = g' i k) : RowsI K H0 H R rs w g' :=
  ⟨h.s, h.top, h.nd, h.nR, h.new, h.R0, fun i r hr => let ⟨xs, e1, l, q⟩ := h.row i r hr; ⟨xs, e1, l, fun k x hx => by
    have h1 := (List.getElem?_eq_some_iff.mp hr).1
    have h2 := (List.getElem?_eq_some_iff.mp hx).1
    rw [← e i k h1 (by omega)]
    exact q k x hx⟩⟩
theorem RowsI.at {H0 H : Hp} {R : Addr} {rs : List Addr} {w : Nat} {g : Nat → Nat → Rat} (h : RowsI K H0 H R rs w g) {i k : Nat} (hi : i < rs.length) (hk : k < w) : ∃ r xs x, rs[i]? = some r ∧ H r = some (.lst xs) ∧ xs.length = w ∧ xs[k]? = some x ∧ PrAt K H x (frq (g i k)) := by
  obtain ⟨xs, e, l, q⟩ := h.row i rs[i] (List.getElem?_eq_getElem hi)
  have hk' : k < xs.length := by omega
  exact ⟨rs[i], xs, xs[k], List.getElem?_eq_getElem hi, e, l, List.getElem?_eq_getElem hk', q k _ (List.getElem?_eq_getElem hk')⟩
def setG (g : Nat → Nat → Rat) (i k : Nat) (y : Rat) : Nat → Nat → Rat := fun p q => if p = i ∧ q = k then y else g p q
theorem RowsI.set {H0 H : Hp} {R : Addr} {rs : List Addr} {w : Nat} {g : Nat → Nat → Rat} (h : RowsI K H0 H R rs w g) {i k : Nat} {r : Addr} {xs : List V} {x : V} {y : Rat} (hr : rs[i]? = some r) (hx : H r = some (.lst xs)) (hk : k < w) (hv : PrAt K H x (frq y)) :
    RowsI K H0 (upd H r (.lst (xs.set k x))) R rs w (setG g i k y) := by
  have ts : TupS H (upd H r (.lst (xs.set k x))) := TupS.put hx
  have pm : ∀ {u z}, PrAt K H u z → PrAt K (upd H r (.lst (xs.set k x))) u z := fun ⟨t, e, ht⟩ => ⟨t, e, ts _ _ ht⟩
  have hrm : r ∈ rs := List.mem_of_getElem? hr
  refine ⟨same_put h.s (h.new r hrm), ?_, h.nd, h.nR, h.new, h.R0, fun j r2 hr2 => ?_⟩
  · rw [upd_ne (fun (e : R = r) => h.nR (e ▸ hrm))]
    exact h.top
  · obtain ⟨zs, e, l, q⟩ := h.row j r2 hr2
    by_cases ej : j = i
    · subst ej
      rw [hr] at hr2
      cases hr2
      rw [hx] at e
      cases e
      refine ⟨_, upd_same, by rw [List.length_set]; exact l, fun c u hu => ?_⟩
      unfold setG
      by_cases ec : c = k
      · subst ec
        rw [List.getElem?_set_self (by omega)] at hu
        cases hu
        rw [if_pos ⟨rfl, rfl⟩]
        exact pm hv
      · rw [List.getElem?_set_ne (by omega)] at hu
        rw [if_neg (fun z => ec z.2)]
        exact pm (q c u hu)
    · have ne : r2 ≠ r := fun e2 => by
        subst e2
        exact ej (nodup_at h.nd hr2 hr)
      refine ⟨zs, by rw [upd_ne ne]; exact e, l, fun c u hu => ?_⟩
      unfold setG
      rw [if_neg (fun z => ej z.1)]
      exact pm (q c u hu)
theorem RowsI.nil {H0 H : Hp} {R : Addr} {w : Nat} {g : Nat → Nat → Rat} (s : Same H0 H) (h : H R = some (.lst [])) (h0 : H0 R = none) : RowsI K H0 H R [] w g :=
  ⟨s, h, List.nodup_nil, (fun h => nomatch h), (fun _ h => nomatch h), h0, fun i r h => nomatch h⟩
/-- one row more -/
theorem RowsI.more {H0 H : Hp} {R r : Addr} {rs : List Addr} {w : Nat} {g : Nat → Nat → Rat} {xs : List V} (h : RowsI K H0 H R rs w g) (hr : H0 r = none) (hx : H r = some (.lst xs)) (nr : r ∉ rs) (nR : r ≠ R) (hl : xs.length = w) (hq : ∀ k x, xs[k]? = some x → PrAt K H x (frq (g rs.length k))) :
    RowsI K H0 (upd H R (.lst (rs.map V.ref ++ [.ref r]))) R (rs ++ [r]) w g := by
  have ts : TupS H (upd H R (.lst (rs.map V.ref ++ [.ref r]))) := TupS.put h.top
  have pm : ∀ {u z}, PrAt K H u z → PrAt K (upd H R (.lst (rs.map V.ref ++ [.ref r]))) u z := fun ⟨t, e, ht⟩ => ⟨t, e, ts _ _ ht⟩
  refine ⟨same_put h.s h.R0, by rw [upd_same, List.map_append]; rfl, ?_, ?_, ?_, h.R0, fun j r2 hr2 => ?_⟩
  · rw [List.nodup_append]
    refine ⟨h.nd, by simp, fun a ha b hb => ?_⟩
    rw [List.mem_singleton.mp hb]
    exact fun e => nr (e ▸ ha)
  · rw [List.mem_append, List.mem_singleton]
    rintro (z | z)
    · exact h.nR z
    · exact nR z.symm
  · intro a ha
    rcases List.mem_append.mp ha with z | z
    · exact h.new a z
    · rw [List.mem_singleton.mp z]; exact hr
  · by_cases ej : j < rs.length
    · rw [List.getElem?_append_left ej] at hr2
      obtain ⟨zs, e, l, q⟩ := h.row j r2 hr2
      have ne : r2 ≠ R := fun z => h.nR (z ▸ List.mem_of_getElem? hr2)
      exact ⟨zs, by rw [upd_ne ne]; exact e, l, fun c u hu => pm (q c u hu)⟩
    · have hj := (List.getElem?_eq_some_iff.mp hr2).1
      rw [List.length_append, List.length_singleton] at hj
      have e : j = rs.length := by omega
      subst e
      rw [List.getElem?_concat_length] at hr2
      cases hr2
      exact ⟨xs, by rw [upd_ne nR]; exact hx, hl, fun c u hu => pm (hq c u hu)⟩
def lenG (v : Int → V2) (i k : Nat) : Rat := Wd v (min (i : Int) k) (max (i : Int) k)
/-- the pairs done ahead of row i, place j -/
def doneG (v : Int → V2) (i j : Nat) : Nat → Nat → Rat := fun p q => if min p q < i ∨ (min p q = i ∧ max p q < j) then lenG v p q else 0
theorem lenG_self (v : Int → V2) (i : Nat) : lenG v i i = 0 := by
  unfold lenG
  rw [Int.min_self, Int.max_self, Wd.self]
theorem lenG_comm (v : Int → V2) (i k : Nat) : lenG v i k = lenG v k i := by
  unfold lenG
  rw [Int.min_comm, Int.max_comm]
theorem doneG_set {v : Int → V2} {i j : Nat} (ij : i < j) (p q : Nat) : setG (setG (doneG v i j) i j (lenG v i j)) j i (lenG v i j) p q = doneG v i (j + 1) p q := by
  unfold setG doneG
  by_cases e1 : p = j ∧ q = i
  · obtain ⟨rfl, rfl⟩ := e1
    rw [if_pos ⟨rfl, rfl⟩, if_pos (by omega), lenG_comm]
  · rw [if_neg e1]
    by_cases e2 : p = i ∧ q = j
    · obtain ⟨rfl, rfl⟩ := e2
      rw [if_pos ⟨rfl, rfl⟩, if_pos (by omega)]
    · rw [if_neg e2]
      by_cases e3 : min p q < i ∨ (min p q = i ∧ max p q < j)
      · rw [if_pos e3, if_pos (by omega)]
      · rw [if_neg e3, if_neg (by omega)]
theorem doneG_row {v : Int → V2} {i n : Nat} (p q : Nat) (hp : p < n) (hq : q < n) : doneG v i n p q = doneG v (i + 1) (i + 2) p q := by
  unfold doneG
  by_cases e : min p q < i ∨ (min p q = i ∧ max p q < n)
  · rw [if_pos e, if_pos (by omega)]
  · rw [if_neg e]
    split
    · next h =>
      have e2 : p = i + 1 ∧ q = i + 1 := by omega
      rw [e2.1, e2.2, lenG_self]
    · rfl
theorem doneG_first (v : Int → V2) (p q : Nat) : doneG v 0 1 p q = 0 := by
  unfold doneG
  split
  · next h =>
    have e2 : p = 0 ∧ q = 0 := by omega
    rw [e2.1, e2.2, lenG_self]
  · rfl
theorem doneG_all {v : Int → V2} {n p q : Nat} (hp : p < n) (hq : q < n) : doneG v n (n + 1) p q = lenG v p q := by
  unfold doneG
  rw [if_pos (by omega)]
theorem ixN_nat {n k : Nat} (h : k < n) : ixN n (k : Int) = some k := by
  unfold ixN
  rw [if_pos (by omega), if_pos (by omega)]
  rfl
def sp_rows (K : PySem.W.Frag) : Sp := fun vs H Q _ => ∃ (n : Int) (cut : List (Int × Int)) (f : Int × Int → Int × Int) (v : Int → V2) (D : Addr) (l0 l1 : Int), vs = [.int n, .ref D] ∧ 3 ≤ n ∧ n ≤ 12 ∧ LawW n cut f v ∧ 0 ≤ l0 ∧ l0 < l1 ∧ l1 < n ∧ Plcs K H D n v l0 l1 ∧
  ∀ H' R rs, RowsI K H H' R rs n.toNat (lenG v) → rs.length = n.toNat → Q (.ref R) H'
/-! ### the ropes crossed from post to post, one behind the other -/
/-- two ropes of one plot, one behind the other -/
def Nx (t : Int × Int → Prop) (p q : Int × Int) : Prop := ∃ s c f, s ≠ c ∧ s ≠ f ∧ c ≠ f ∧ p = pr s c ∧ q = pr s f ∧ t (pr c f)
theorem Nx.symm {t : Int × Int → Prop} {p q : Int × Int} (h : Nx t p q) : Nx t q p := by
  obtain ⟨s, c, f, n1, n2, n3, e1, e2, k⟩ := h
  exact ⟨s, f, c, n2, n1, Ne.symm n3, e2, e1, by rw [pr_comm]; exact k⟩
theorem Nx.mono {t t' : Int × Int → Prop} {p q : Int × Int} (h : Nx t p q) (m : ∀ q, t q → t' q) : Nx t' p q := by
  obtain ⟨s, c, f, n1, n2, n3, e1, e2, k⟩ := h
  exact ⟨s, c, f, n1, n2, n3, e1, e2, m _ k⟩
def Linked (t : Int × Int → Prop) (L : List (Int × Int)) : Prop := ∀ i x y, L[i]? = some x → L[i + 1]? = some y → Nx t x y
theorem Linked.mono {t t' : Int × Int → Prop} {L : List (Int × Int)} (h : Linked t L) (m : ∀ q, t q → t' q) : Linked t' L := fun i x y h1 h2 => (h i x y h1 h2).mono m
theorem Linked.app {t : Int × Int → Prop} {L M : List (Int × Int)} (h : Linked t L) (k : Linked t M) (b : ∀ x y, L[L.length - 1]? = some x → M[0]? = some y → Nx t x y) : Linked t (L ++ M) := by
  intro i x y h1 h2
  by_cases c1 : i + 1 < L.length
  · rw [List.getElem?_append_left (by omega)] at h1
    rw [List.getElem?_append_left c1] at h2
    exact h i x y h1 h2
  · rw [List.getElem?_append_right (by omega)] at h2
    by_cases c2 : i + 1 = L.length
    · rw [List.getElem?_append_left (by omega)] at h1
      rw [show i = L.length - 1 by omega] at h1
      rw [show i + 1 - L.length = 0 by omega] at h2
      exact b x y h1 h2
    · rw [List.getElem?_append_right (by omega)] at h1
      rw [show i + 1 - L.length = (i - L.length) + 1 by omega] at h2
      exact k _ x y h1 h2
theorem Linked.rev {t : Int × Int → Prop} {L : List (Int × Int)} (h : Linked t L) : Linked t L.reverse := by
  intro i x y h1 h2
  have l2 := (List.getElem?_eq_some_iff.mp h2).1
  rw [List.length_reverse] at l2
  rw [List.getElem?_reverse (by omega)] at h1 h2
  have e : L.length - 1 - i = (L.length - 1 - (i + 1)) + 1 := by omega
  rw [e] at h1
  exact (h _ y x h2 h1).symm
theorem Linked.one {t : Int × Int → Prop} (q : Int × Int) : Linked t [q] := fun i x y _ h2 => by
  rw [List.getElem?_eq_none (by simp)] at h2
  cases h2
theorem Linked.nil {t : Int × Int → Prop} : Linked t [] := fun i x y h _ => by cases h
/-- z makes a plot with the rope -/
def Apex (t : Int × Int → Prop) (z : Int) (q : Int × Int) : Prop := t (pr z q.1) ∧ t (pr z q.2) ∧ z ≠ q.1 ∧ z ≠ q.2
theorem Apex.mono {t t' : Int × Int → Prop} {z : Int} {q : Int × Int} (h : Apex t z q) (m : ∀ q, t q → t' q) : Apex t' z q := ⟨m _ h.1, m _ h.2.1, h.2.2⟩
structure Walk (t : Int × Int → Prop) (a b : Int) (L : List (Int × Int)) : Prop where
  link : Linked t L
  fst : ∀ q, L[0]? = some q → Apex t a q
  lst : ∀ q, L[L.length - 1]? = some q → Apex t b q
  emp : L = [] → t (pr a b)
theorem Walk.mono {t t' : Int × Int → Prop} {a b : Int} {L : List (Int × Int)} (h : Walk t a b L) (m : ∀ q, t q → t' q) : Walk t' a b L := ⟨h.link.mono m, fun q e => (h.fst q e).mono m, fun q e => (h.lst q e).mono m, fun e => m _ (h.emp e)⟩
theorem Walk.rev {t : Int × Int → Prop} {a b : Int} {L : List (Int × Int)} (h : Walk t a b L) : Walk t b a L.reverse := by
  refine ⟨h.link.rev, fun q e => ?_, fun q e => ?_, fun e => ?_⟩
  · have l := (List.getElem?_eq_some_iff.mp e).1
    rw [List.length_reverse] at l
    rw [List.getElem?_reverse l] at e
    exact h.lst q (by rw [← e]; congr 1)
  · have l := (List.getElem?_eq_some_iff.mp e).1
    rw [List.length_reverse] at l
    rw [List.length_reverse, List.getElem?_reverse (by omega)] at e
    exact h.fst q (by rw [← e]; congr 1; omega)
  · rw [pr_comm]
    exact h.emp (by rw [← List.length_eq_zero_iff, ← List.length_reverse, e]; rfl)
abbrev tq (lo hi : Int) (T : Tr) (q : Int × Int) : Prop := tie lo hi T q.1 q.2
def cov : Int → Int → Tr → Int → List (Int × Int)
  | _, _, .lf, _ => []
  | lo, hi, .nd m l r, z => if lo < z ∧ z < hi then cov lo m l z ++ cov m hi r z ++ [(lo, hi)] else []
def path : Int → Int → Tr → Int → Int → List (Int × Int)
  | _, _, .lf, _, _ => []
  | lo, hi, .nd m l r, a, b => if a = lo ∧ b = hi then [] else if b ≤ m then path lo m l a b else if m ≤ a then path m hi r a b else cov lo m l a ++ (cov m hi r b).reverse
section
variable {S : Int → Prop}
theorem cov_out {T : Tr} {lo hi z : Int} (h : ¬ (lo < z ∧ z < hi)) : cov lo hi T z = [] := by
  cases T with
  | lf => rfl
  | nd m l r => exact if_neg h
theorem cov_mem : ∀ {T : Tr} {lo hi z : Int}, TOk S lo hi T → S z → ∀ q, q ∈ cov lo hi T z ↔ tq lo hi T q ∧ q.1 < z ∧ z < q.2
  | .lf, lo, hi, z, h, hz, q => by
    constructor
    · intro h; cases h
    · rintro ⟨⟨e1, e2⟩, h1, h2⟩
      exact absurd ⟨by omega, by omega⟩ (h.2 z hz)
  | .nd m l r, lo, hi, z, ⟨sm, h1, h2⟩, hz, q => by
    show q ∈ (if lo < z ∧ z < hi then _ else _) ↔ (_ ∨ _ ∨ _) ∧ _
    have l1 := h1.lt
    have l2 := h2.lt
    by_cases c : lo < z ∧ z < hi
    · rw [if_pos c, List.mem_append, List.mem_append, cov_mem h1 hz, cov_mem h2 hz, List.mem_singleton]
      constructor
      · rintro ((⟨t, w⟩ | ⟨t, w⟩) | e)
        · exact ⟨.inr (.inl t), w⟩
        · exact ⟨.inr (.inr t), w⟩
        · rw [e]; exact ⟨.inl ⟨rfl, rfl⟩, c⟩
      · rintro ⟨⟨e1, e2⟩ | t | t, w⟩
        · exact .inr (Prod.ext e1 e2)
        · exact .inl (.inl ⟨t, w⟩)
        · exact .inl (.inr ⟨t, w⟩)
    · rw [if_neg c]
      constructor
      · intro h; cases h
      · rintro ⟨⟨e1, e2⟩ | t | t, w1, w2⟩
        · exact absurd ⟨by omega, by omega⟩ c
        · have := tie_in h1 t
          exact absurd ⟨by omega, by omega⟩ c
        · have := tie_in h2 t
          exact absurd ⟨by omega, by omega⟩ c
theorem cov_in {T : Tr} {lo hi z : Int} (hT : TOk S lo hi T) (hz : S z) {q : Int × Int} (h : q ∈ cov lo hi T z) : lo ≤ q.1 ∧ q.1 < z ∧ z < q.2 ∧ q.2 ≤ hi := by
  obtain ⟨t, w1, w2⟩ := (cov_mem hT hz q).mp h
  have := tie_in hT t
  exact ⟨this.1, w1, w2, this.2.2⟩
theorem last_snoc {L : List (Int × Int)} {q x : Int × Int} (h : (L ++ [q])[(L ++ [q]).length - 1]? = some x) : x = q := by
  rw [List.length_append, List.length_singleton, Nat.add_sub_cancel, List.getElem?_concat_length] at h
  exact (Option.some.inj h).symm
theorem prl {x y : Int} (h : x < y) : pr x y = (x, y) := pr_of_lt h
theorem prg {x y : Int} (h : y < x) : pr x y = (y, x) := by rw [pr_comm]; exact pr_of_lt h
/-- the ties over a post, the innermost first -/
theorem cov_walk : ∀ {T : Tr} {lo hi z : Int}, TOk S lo hi T → S z → lo < z → z < hi → Linked (tq lo hi T) (cov lo hi T z) ∧ (∀ q, (cov lo hi T z)[0]? = some q → Apex (tq lo hi T) z q) ∧ (∃ L, cov lo hi T z = L ++ [(lo, hi)]) ∧ (cov lo hi T z).Pairwise (fun p q => p.2 - p.1 < q.2 - q.1)
  | .lf, lo, hi, z, h, hz, g1, g2 => absurd ⟨g1, g2⟩ (h.2 z hz)
  | .nd m l r, lo, hi, z, ⟨sm, h1, h2⟩, hz, g1, g2 => by
    have l1 := h1.lt
    have l2 := h2.lt
    have el : cov lo hi (.nd m l r) z = cov lo m l z ++ cov m hi r z ++ [(lo, hi)] := if_pos ⟨g1, g2⟩
    have ml : ∀ q, tq lo m l q → tq lo hi (.nd m l r) q := fun q t => .inr (.inl t)
    have mr : ∀ q, tq m hi r q → tq lo hi (.nd m l r) q := fun q t => .inr (.inr t)
    have tlm : tq lo hi (.nd m l r) (lo, m) := .inr (.inl tie_root)
    have tmh : tq lo hi (.nd m l r) (m, hi) := .inr (.inr tie_root)
    rw [el]
    rcases Int.lt_trichotomy z m with e | e | e
    · obtain ⟨a1, a2, ⟨L, a3⟩, a4⟩ := cov_walk h1 hz g1 e
      rw [cov_out (T := r) (by omega), List.append_nil]
      refine ⟨(a1.mono ml).app (.one _) fun x y hx hy => ?_, fun q hq => ?_, ⟨_, rfl⟩, ?_⟩
      · rw [a3] at hx
        have ex := last_snoc hx
        have ey : (lo, hi) = y := Option.some.inj hy
        subst ex; subst ey
        exact ⟨lo, m, hi, by omega, by omega, by omega, (prl l1).symm, (prl (by omega)).symm, by rw [prl l2]; exact tmh⟩
      · rw [a3] at hq a2
        rw [List.append_assoc] at hq
        refine (a2 q ?_).mono ml
        cases L with
        | nil => exact hq
        | cons x L => exact hq
      · rw [List.pairwise_append]
        refine ⟨a4, by simp, fun p hp q hq => ?_⟩
        rw [List.mem_singleton.mp hq]
        have := cov_in h1 hz hp
        simp only
        omega
    · subst e
      rw [cov_out (T := l) (by omega), cov_out (T := r) (by omega)]
      refine ⟨.one _, fun q hq => ?_, ⟨[], rfl⟩, by simp⟩
      have eq : (lo, hi) = q := Option.some.inj hq
      subst eq
      exact ⟨by rw [prg l1]; exact tlm, by rw [prl l2]; exact tmh, by simp only; omega, by simp only; omega⟩
    · obtain ⟨a1, a2, ⟨L, a3⟩, a4⟩ := cov_walk h2 hz e g2
      rw [cov_out (T := l) (by omega), List.nil_append]
      refine ⟨(a1.mono mr).app (.one _) fun x y hx hy => ?_, fun q hq => ?_, ⟨_, rfl⟩, ?_⟩
      · rw [a3] at hx
        have ex := last_snoc hx
        have ey : (lo, hi) = y := Option.some.inj hy
        subst ex; subst ey
        exact ⟨hi, m, lo, by omega, by omega, by omega, (prg l2).symm, (prg (by omega)).symm, by rw [prg l1]; exact tlm⟩
      · rw [a3] at hq a2
        rw [List.append_assoc] at hq
        refine (a2 q ?_).mono mr
        cases L with
        | nil => exact hq
        | cons x L => exact hq
      · rw [List.pairwise_append]
        refine ⟨a4, by simp, fun p hp q hq => ?_⟩
        rw [List.mem_singleton.mp hq]
        have := cov_in h2 hz hp
        simp only
        omega
/-- the rope crosses the way from a up to b -/
def Crs (q : Int × Int) (a b : Int) : Prop := (q.1 < a ∧ a < q.2 ∧ q.2 < b) ∨ (a < q.1 ∧ q.1 < b ∧ b < q.2)
theorem path_mem : ∀ {T : Tr} {lo hi a b : Int}, TOk S lo hi T → S a → S b → a < b → lo ≤ a → b ≤ hi → ∀ q, q ∈ path lo hi T a b ↔ tq lo hi T q ∧ Crs q a b
  | .lf, lo, hi, a, b, h, sa, sb, ab, h1, h2, q => by
    constructor
    · intro h; cases h
    · rintro ⟨⟨e1, e2⟩, c⟩
      unfold Crs at c
      omega
  | .nd m l r, lo, hi, a, b, ⟨sm, k1, k2⟩, sa, sb, ab, h1, h2, q => by
    have l1 := k1.lt
    have l2 := k2.lt
    show q ∈ (if a = lo ∧ b = hi then [] else if b ≤ m then path lo m l a b else if m ≤ a then path m hi r a b else cov lo m l a ++ (cov m hi r b).reverse) ↔ (_ ∨ _ ∨ _) ∧ _
    by_cases c1 : a = lo ∧ b = hi
    · rw [if_pos c1]
      constructor
      · intro h; cases h
      · rintro ⟨⟨e1, e2⟩ | t | t, c⟩
        · unfold Crs at c; omega
        · have := tie_in k1 t; unfold Crs at c; omega
        · have := tie_in k2 t; unfold Crs at c; omega
    · rw [if_neg c1]
      by_cases c2 : b ≤ m
      · rw [if_pos c2, path_mem k1 sa sb ab h1 c2]
        constructor
        · rintro ⟨t, c⟩; exact ⟨.inr (.inl t), c⟩
        · rintro ⟨⟨e1, e2⟩ | t | t, c⟩
          · unfold Crs at c; omega
          · exact ⟨t, c⟩
          · have := tie_in k2 t; unfold Crs at c; omega
      · rw [if_neg c2]
        by_cases c3 : m ≤ a
        · rw [if_pos c3, path_mem k2 sa sb ab c3 h2]
          constructor
          · rintro ⟨t, c⟩; exact ⟨.inr (.inr t), c⟩
          · rintro ⟨⟨e1, e2⟩ | t | t, c⟩
            · unfold Crs at c; omega
            · have := tie_in k1 t; unfold Crs at c; omega
            · exact ⟨t, c⟩
        · rw [if_neg c3, List.mem_append, List.mem_reverse, cov_mem k1 sa, cov_mem k2 sb]
          unfold Crs
          constructor
          · rintro (⟨t, w1, w2⟩ | ⟨t, w1, w2⟩)
            · have := tie_in k1 t; exact ⟨.inr (.inl t), by omega⟩
            · have := tie_in k2 t; exact ⟨.inr (.inr t), by omega⟩
          · rintro ⟨⟨e1, e2⟩ | t | t, c⟩
            · omega
            · have := tie_in k1 t; exact .inl ⟨t, by omega, by omega⟩
            · have := tie_in k2 t; exact .inr ⟨t, by omega, by omega⟩
/-- how far ahead, less how far behind -/
def keyR (n a : Int) (q : Int × Int) : Int := if q.1 < a then q.2 - q.1 - n else q.1 - q.2
theorem path_walk {n : Int} : ∀ {T : Tr} {lo hi a b : Int}, TOk S lo hi T → hi - lo < n → S a → S b → a < b → lo ≤ a → b ≤ hi → Walk (tq lo hi T) a b (path lo hi T a b) ∧ (path lo hi T a b).Pairwise (fun p q => keyR n a p < keyR n a q)
  | .lf, lo, hi, a, b, h, hn, sa, sb, ab, h1, h2 => by
    have e1 := h.2 a sa
    have e2 := h.2 b sb
    have ea : a = lo := by omega
    have eb : b = hi := by omega
    subst ea; subst eb
    refine ⟨⟨.nil, (fun q h => nomatch h), (fun q h => nomatch h), fun _ => ?_⟩, .nil⟩
    rw [prl ab]
    exact ⟨rfl, rfl⟩
  | .nd m l r, lo, hi, a, b, ⟨sm, k1, k2⟩, hn, sa, sb, ab, h1, h2 => by
    have l1 := k1.lt
    have l2 := k2.lt
    have ml : ∀ q, tq lo m l q → tq lo hi (.nd m l r) q := fun q t => .inr (.inl t)
    have mr : ∀ q, tq m hi r q → tq lo hi (.nd m l r) q := fun q t => .inr (.inr t)
    have tlm : tq lo hi (.nd m l r) (lo, m) := .inr (.inl tie_root)
    have tmh : tq lo hi (.nd m l r) (m, hi) := .inr (.inr tie_root)
    have tlh : tq lo hi (.nd m l r) (lo, hi) := .inl ⟨rfl, rfl⟩
    show Walk _ a b (if a = lo ∧ b = hi then [] else if b ≤ m then path lo m l a b else if m ≤ a then path m hi r a b else cov lo m l a ++ (cov m hi r b).reverse) ∧ List.Pairwise _ (if a = lo ∧ b = hi then [] else if b ≤ m then path lo m l a b else if m ≤ a then path m hi r a b else cov lo m l a ++ (cov m hi r b).reverse)
    by_cases c1 : a = lo ∧ b = hi
    · rw [if_pos c1]
      refine ⟨⟨.nil, (fun q h => nomatch h), (fun q h => nomatch h), fun _ => ?_⟩, .nil⟩
      rw [prl ab, c1.1, c1.2]
      exact tlh
    · rw [if_neg c1]
      by_cases c2 : b ≤ m
      · rw [if_pos c2]
        obtain ⟨w1, w2⟩ := path_walk (n := n) k1 (by omega) sa sb ab h1 c2
        exact ⟨w1.mono ml, w2⟩
      · rw [if_neg c2]
        by_cases c3 : m ≤ a
        · rw [if_pos c3]
          obtain ⟨w1, w2⟩ := path_walk (n := n) k2 (by omega) sa sb ab c3 h2
          exact ⟨w1.mono mr, w2⟩
        · rw [if_neg c3]
          by_cases ca : a = lo
          · subst ca
            rw [cov_out (T := l) (by omega), List.nil_append]
            obtain ⟨a1, a2, ⟨L, a3⟩, a4⟩ := cov_walk k2 sb (by omega) (by omega)
            have hw : Walk (tq a hi (.nd m l r)) b a (cov m hi r b) := by
              refine ⟨a1.mono mr, fun q hq => (a2 q hq).mono mr, fun q hq => ?_, fun e => ?_⟩
              · rw [a3] at hq
                have eq := last_snoc hq
                subst eq
                exact ⟨by rw [prl l1]; exact tlm, by rw [prl (by omega)]; exact tlh, by simp only; omega, by simp only; omega⟩
              · rw [a3] at e; simp at e
            refine ⟨hw.rev, ?_⟩
            rw [List.pairwise_reverse]
            refine a4.imp_of_mem fun {p q} hp hq h => ?_
            have hp := cov_in k2 sb hp
            have hq := cov_in k2 sb hq
            unfold keyR
            rw [if_neg (by omega), if_neg (by omega)]
            omega
          · obtain ⟨a1, a2, ⟨L, a3⟩, a4⟩ := cov_walk k1 sa (by omega) (by omega)
            by_cases cb : b = hi
            · subst cb
              rw [cov_out (T := r) (by omega), List.reverse_nil, List.append_nil]
              refine ⟨⟨a1.mono ml, fun q hq => (a2 q hq).mono ml, fun q hq => ?_, fun e => ?_⟩, a4.imp_of_mem fun {p q} hp hq h => ?_⟩
              · rw [a3] at hq
                have eq := last_snoc hq
                subst eq
                exact ⟨by rw [prg (by omega)]; exact tlh, by rw [prg l2]; exact tmh, by simp only; omega, by simp only; omega⟩
              · rw [a3] at e; simp at e
              · have hp := cov_in k1 sa hp
                have hq := cov_in k1 sa hq
                unfold keyR
                rw [if_pos (by omega), if_pos (by omega)]
                omega
            · obtain ⟨b1, b2, ⟨M, b3⟩, b4⟩ := cov_walk k2 sb (by omega) (by omega)
              have lc : 0 < (cov lo m l a).length := by rw [a3]; simp
              have lr : 0 < (cov m hi r b).length := by rw [b3]; simp
              refine ⟨⟨(a1.mono ml).app (b1.mono mr).rev fun x y hx hy => ?_, fun q hq => ?_, fun q hq => ?_, fun e => ?_⟩, ?_⟩
              · rw [a3] at hx
                have ex := last_snoc hx
                rw [b3, List.reverse_append] at hy
                have ey : (m, hi) = y := Option.some.inj hy
                subst ex; subst ey
                exact ⟨m, lo, hi, by omega, by omega, by omega, (prg l1).symm, (prl l2).symm, by rw [prl (by omega)]; exact tlh⟩
              · rw [List.getElem?_append_left lc] at hq
                exact (a2 q hq).mono ml
              · rw [List.length_append, List.length_reverse, List.getElem?_append_right (by omega), List.getElem?_reverse (by omega)] at hq
                rw [show (cov m hi r b).length - 1 - ((cov lo m l a).length + (cov m hi r b).length - 1 - (cov lo m l a).length) = 0 by omega] at hq
                exact (b2 q hq).mono mr
              · rw [a3] at e; simp at e
              · rw [List.pairwise_append]
                refine ⟨a4.imp_of_mem fun {p q} hp hq h => ?_, ?_, fun p hp q hq => ?_⟩
                · have hp := cov_in k1 sa hp
                  have hq := cov_in k1 sa hq
                  unfold keyR
                  rw [if_pos (by omega), if_pos (by omega)]
                  omega
                · rw [List.pairwise_reverse]
                  refine b4.imp_of_mem fun {p q} hp hq h => ?_
                  have hp := cov_in k2 sb hp
                  have hq := cov_in k2 sb hq
                  unfold keyR
                  rw [if_neg (by omega), if_neg (by omega)]
                  omega
                · have hp := cov_in k1 sa hp
                  have hq := cov_in k2 sb (List.mem_reverse.mp hq)
                  unfold keyR
                  rw [if_pos (by omega), if_neg (by omega)]
                  omega
end

/-! ### sorted(xs), the items tuples of any data -/
section
open PySem.W PySem.Calls
theorem each_refsD {β : Type} {R : V → β → Prop} : ∀ {xs : List V} {its : List Value} {bs : List β}, Vals xs its → All2 R xs bs → (∀ x b, R x b → ∃ t, x = V.ref t) → EachIs (fun u b => ∃ t, u = Value.ref t ∧ R (.ref t) b) its bs
  | _, _, _, .nil, .nil, _ => .nil
  | _, _, _, .cons (b := u) r t, .cons h t2, f => by
    obtain ⟨a, rfl⟩ := f _ _ h
    obtain rfl : u = Value.ref a := r
    exact .cons ⟨a, rfl, h⟩ (each_refsD t t2 f)
theorem each_valsD {β : Type} {R : V → β → Prop} : ∀ {out : List Value} {ps : List β}, EachIs (fun u p => ∃ b, u = Value.ref b ∧ R (.ref b) p) out ps → ∃ ys, Vals ys out ∧ All2 R ys ps
  | _, _, .nil => ⟨[], .nil, .nil⟩
  | _, _, .cons ⟨b, e, hb⟩ t => by
    obtain ⟨ys, h1, h2⟩ := each_valsD t
    subst e
    exact ⟨.ref b :: ys, .cons rfl h1, .cons hb h2⟩
def rSortD (K : PySem.W.Frag) : List V → Hp → VK → Prop := fun vs H Q => ∃ (a : Addr) (xs : List V) (β : Type) (bs : List β) (enc : β → PyData) (R : V → β → Prop), vs = [.ref a] ∧ SqL K H a xs ∧ All2 R xs bs ∧ (∀ x b, R x b → (∃ t, x = V.ref t) ∧ Dp K H x (enc b)) ∧
  (∀ b b', b ∈ bs → b' ∈ bs → PySem.W.alike (enc b) (enc b') = true) ∧ (∀ b ∈ bs, ∃ x r, enc b = .tuple (x :: r)) ∧ (∀ b ∈ bs, (enc b).depth ≤ 8) ∧
  ∀ (p : Addr) (ys : List V), H p = none → All2 R ys (bs.mergeSort (dataLe false enc)) → Q (.ref p) (upd H p (.lst ys))
theorem cr_sortedD {X : Cx} (hu : X.A.units + 64 < cLine) : CallR X (.builtin "sorted") (rSortD X.K) := by
  intro pins s σ H vs us Q I r h
  obtain ⟨a, xs, β, bs, enc, R, rfl, hs, hR, hRD, hal, htup, hdep, q⟩ := h
  obtain ⟨its, rv, hl, hz⟩ := I.list hs
  obtain ⟨u, rfl, ru⟩ := vals1 r
  obtain rfl : u = Value.ref a := ru
  have hE := each_refsD rv hR (fun x b h => (hRD x b h).1)
  have er : EachIs (fun v b => ∃ as, Reads s.heap v (enc b) as) its bs := hE.mono fun u b ⟨t, eu, hr⟩ => by
    subst eu
    exact Dp.reads I _ _ _ (hRD _ _ hr).2 rfl
  have hxl := hR.length
  refine sorted_data (R := fun u b => ∃ t, u = Value.ref t ∧ R (.ref t) b) hl.isList hE er ?_ (.inl fun d hd => ?_) (by rw [← hxl]; exact hz) (fun b hb => ?_) fun out hlen ho => ?_
  · intro d hd d' hd'
    obtain ⟨b, hb, rfl⟩ := List.mem_map.mp hd
    obtain ⟨b', hb', rfl⟩ := List.mem_map.mp hd'
    exact hal b b' hb hb'
  · obtain ⟨b, hb, rfl⟩ := List.mem_map.mp hd
    exact htup b hb
  · have := hdep b hb
    omega
  · obtain ⟨ys, h1, h2⟩ := each_valsD ho
    obtain ⟨n, hn⟩ := PyProof.Rows.sortedAll_at s.heap its out.toArray
    have hyl : ys.length ≤ sizeLine := by
      rw [h1.length, hlen, ← hxl]
      exact hz
    exact ⟨.ref (s.heap.objs.size + 1), upd H (s.heap.objs.size + 1) (.lst ys), I.laid (t' := s.toks) (fun b o e => PyProof.Rows.sortedAll_old e) (Nat.le_succ _) ⟨hyl, out, n, h1, hn⟩, rfl, q _ ys (I.hok.fresh (Nat.le_succ _)) h2⟩
end
/-! ### rows of a key and a rope, sorted -/
def KR := Int × (Int × Int)
def encK (x : KR) : PyData := .tuple [.int x.1, dat2 x.2]
def leK (x y : KR) : Prop := x.1 < y.1 ∨ (x.1 = y.1 ∧ le2 x.2 y.2)
instance (x y : KR) : Decidable (leK x y) := by unfold leK le2; infer_instance
theorem encK_le : PySem.W.dataLe false encK = fun x y => decide (leK x y) := by
  funext x y
  show (!PySem.W.dataLt (encK y) (encK x)) = _
  unfold encK
  have al2 : PySem.W.alike (dat2 y.2) (dat2 x.2) = true := by unfold dat2; simp [PySem.W.alike, PySem.W.alikeAll]
  rw [PySem.W.dataLt_pair (by simp [PySem.W.alike]) al2, dat2_eqv, PySem.W.dataLt_int]
  have e1 : PyData.eqv (.int y.1) (.int x.1) = decide (y.1 = x.1) := by
    rw [Bool.eq_iff_iff]
    simp [PyData.eqv]
  rw [e1]
  unfold dat2
  rw [PySem.W.dataLt_ii]
  by_cases h1 : y.1 = x.1
  · rw [if_pos (decide_eq_true h1)]
    by_cases h2 : y.2 = x.2
    · rw [if_pos (decide_eq_true h2)]
      symm
      rw [Bool.not_false, decide_eq_true_eq]
      unfold leK le2
      rw [h1, h2]
      omega
    · rw [if_neg (by simp [h2])]
      rw [← decide_not, decide_eq_decide]
      have h2' : ¬ (y.2.1 = x.2.1 ∧ y.2.2 = x.2.2) := fun e => h2 (Prod.ext e.1 e.2)
      unfold leK le2
      omega
  · rw [if_neg (by simp [h1])]
    rw [← decide_not, decide_eq_decide]
    unfold leK
    omega
theorem leK_trans {x y z : KR} (h : leK x y) (k : leK y z) : leK x z := by
  unfold leK le2 at *
  omega
theorem leK_total (x y : KR) : leK x y ∨ leK y x := by
  unfold leK le2
  omega
theorem sortK_eq {bs ks : List KR} (hp : bs.Perm ks) (hs : ks.Pairwise (fun x y => x.1 < y.1)) : bs.mergeSort (PySem.W.dataLe false encK) = ks := by
  rw [encK_le]
  have h1 := List.pairwise_mergeSort (le := fun x y => decide (leK x y)) (fun a b c h1 h2 => decide_eq_true (leK_trans (of_decide_eq_true h1) (of_decide_eq_true h2))) (fun a b => by
    rw [Bool.or_eq_true, decide_eq_true_eq, decide_eq_true_eq]
    exact leK_total a b) bs
  refine List.Perm.eq_of_pairwise (le := fun x y : KR => x.1 ≤ y.1) ?_ (h1.imp fun {x y} h => ?_) (hs.imp fun {x y} h => Int.le_of_lt h) ((List.mergeSort_perm _ _).trans hp)
  · intro x y hx hy h1 h2
    have e : x.1 = y.1 := Int.le_antisymm h1 h2
    have hx' : x ∈ ks := ((List.mergeSort_perm _ _).trans hp).mem_iff.mp hx
    obtain ⟨i, hi⟩ := List.getElem?_of_mem hx'
    obtain ⟨j, hj⟩ := List.getElem?_of_mem hy
    have li := (List.getElem?_eq_some_iff.mp hi)
    have lj := (List.getElem?_eq_some_iff.mp hj)
    obtain ⟨li, ei⟩ := li
    obtain ⟨lj, ej⟩ := lj
    rcases Nat.lt_trichotomy i j with c | c | c
    · have := List.pairwise_iff_getElem.mp hs i j li lj c
      rw [ei, ej] at this
      omega
    · subst c
      rw [hi] at hj
      exact Option.some.inj hj
    · have := List.pairwise_iff_getElem.mp hs j i lj li c
      rw [ei, ej] at this
      omega
  · have := of_decide_eq_true h
    unfold leK at this
    omega

/-! ### crossed: the ropes crossed, the nearest first -/
def relK (n a : Int) (q : Int × Int) : Int := min ((q.1 - a) % n) ((q.2 - a) % n) - max ((q.1 - a) % n) ((q.2 - a) % n)
theorem emod_up {n x : Int} (h0 : 0 ≤ x) (h1 : x < n) : x % n = x := Int.emod_eq_of_lt h0 h1
theorem emod_dn {n x : Int} (h0 : -n ≤ x) (h1 : x < 0) : x % n = x + n := by
  have e : x % n = (x + n) % n := (Int.add_emod_right _ _).symm
  rw [e, Int.emod_eq_of_lt (by omega) (by omega)]
theorem relK_up {n a b : Int} {q : Int × Int} (ab : a < b) (a0 : 0 ≤ a) (bn : b < n) (q0 : 0 ≤ q.1) (qn : q.2 < n) (h : Crs q a b) : relK n a q = keyR n a q := by
  unfold relK keyR
  rcases h with ⟨h1, h2, h3⟩ | ⟨h1, h2, h3⟩
  · rw [emod_dn (x := q.1 - a) (by omega) (by omega), emod_up (x := q.2 - a) (by omega) (by omega), if_pos h1]
    omega
  · rw [emod_up (x := q.1 - a) (by omega) (by omega), emod_up (x := q.2 - a) (by omega) (by omega), if_neg (by omega)]
    omega
theorem relK_dn {n a b : Int} {q : Int × Int} (ab : b < a) (b0 : 0 ≤ b) (an : a < n) (q0 : 0 ≤ q.1) (qn : q.2 < n) (h : Crs q b a) : relK n a q = -keyR n b q - n := by
  unfold relK keyR
  rcases h with ⟨h1, h2, h3⟩ | ⟨h1, h2, h3⟩
  · rw [emod_dn (x := q.1 - a) (by omega) (by omega), emod_dn (x := q.2 - a) (by omega) (by omega), if_pos h1]
    omega
  · rw [emod_dn (x := q.1 - a) (by omega) (by omega), emod_up (x := q.2 - a) (by omega) (by omega), if_neg (by omega)]
    omega
/-- the ropes crossed on the way from a to b -/
structure CrsL (n : Int) (l : List (Int × Int)) (a b : Int) (L : List (Int × Int)) : Prop where
  mem : ∀ q, q ∈ L ↔ q ∈ l ∧ crossI (a, b) q = true
  walk : Walk (· ∈ tiesS n l) a b L
  key : L.Pairwise (fun p q => relK n a p < relK n a q)
theorem crossI_crs {a b : Int} {q : Int × Int} (ab : a ≠ b) (hq : q.1 < q.2) : crossI (a, b) q = true ↔ Crs q (min a b) (max a b) := by
  obtain ⟨c, d⟩ := q
  unfold crossI Crs
  simp only at *
  by_cases e : c = a ∨ c = b ∨ d = a ∨ d = b
  · rw [if_pos e]
    constructor
    · intro h; cases h
    · intro h; omega
  · rw [if_neg e, decide_eq_true_eq, dec_ne]
    omega
theorem crs_list {n : Int} {l : List (Int × Int)} {a b : Int} (hC : IsCut n l) (a0 : 0 ≤ a) (an : a < n) (b0 : 0 ≤ b) (bn : b < n) (ab : a ≠ b) : ∃ L, CrsL n l a b L := by
  obtain ⟨T, hT, hR⟩ := hC.ex
  have h3 := hC.three
  have tt := tie_ties h3 hT hR
  have mt : ∀ q, tq 0 (n - 1) T q → q ∈ tiesS n l := fun q h => (tt q.1 q.2).mp h
  have core : ∀ {x y : Int}, x < y → 0 ≤ x → y < n → (∀ q, q ∈ path 0 (n - 1) T x y ↔ q ∈ l ∧ Crs q x y) ∧ Walk (· ∈ tiesS n l) x y (path 0 (n - 1) T x y) ∧ (path 0 (n - 1) T x y).Pairwise (fun p q => keyR n x p < keyR n x q) := fun {x y} xy x0 yn => by
    have hm := path_mem hT (a := x) (b := y) ⟨x0, by omega⟩ ⟨by omega, yn⟩ xy x0 (by omega)
    obtain ⟨w1, w2⟩ := path_walk (n := n) hT (by omega) (a := x) (b := y) ⟨x0, by omega⟩ ⟨by omega, yn⟩ xy x0 (by omega)
    refine ⟨fun q => ?_, w1.mono mt, w2⟩
    rw [hm]
    constructor
    · rintro ⟨t, c⟩
      have ti := tie_in hT t
      refine ⟨(hR q.1 q.2).mpr ⟨t, ?_, ?_⟩, c⟩
      · unfold Crs at c; omega
      · unfold Crs at c; omega
    · rintro ⟨h, c⟩
      exact ⟨((hR q.1 q.2).mp h).1, c⟩
  rcases Int.lt_or_lt_of_ne ab with h | h
  · obtain ⟨w1, w2, w3⟩ := core h a0 bn
    refine ⟨_, fun q => ?_, w2, w3.imp_of_mem fun {p q} hp hq hk => ?_⟩
    · rw [w1]
      constructor
      · rintro ⟨m, c⟩
        have := cut_lt hC m
        exact ⟨m, (crossI_crs ab (by omega)).mpr (by rw [Int.min_eq_left (by omega), Int.max_eq_right (by omega)]; exact c)⟩
      · rintro ⟨m, c⟩
        have := cut_lt hC m
        have c := (crossI_crs ab (by omega)).mp c
        rw [Int.min_eq_left (by omega), Int.max_eq_right (by omega)] at c
        exact ⟨m, c⟩
    · have hp := (w1 p).mp hp
      have hq := (w1 q).mp hq
      have p1 := cut_lt hC hp.1
      have q1 := cut_lt hC hq.1
      rw [relK_up h a0 bn p1.1 p1.2.2 hp.2, relK_up h a0 bn q1.1 q1.2.2 hq.2]
      exact hk
  · obtain ⟨w1, w2, w3⟩ := core h b0 an
    refine ⟨_, fun q => ?_, w2.rev, ?_⟩
    · rw [List.mem_reverse, w1]
      constructor
      · rintro ⟨m, c⟩
        have := cut_lt hC m
        exact ⟨m, (crossI_crs ab (by omega)).mpr (by rw [Int.min_eq_right (by omega), Int.max_eq_left (by omega)]; exact c)⟩
      · rintro ⟨m, c⟩
        have := cut_lt hC m
        have c := (crossI_crs ab (by omega)).mp c
        rw [Int.min_eq_right (by omega), Int.max_eq_left (by omega)] at c
        exact ⟨m, c⟩
    · rw [List.pairwise_reverse]
      refine w3.imp_of_mem fun {p q} hp hq hk => ?_
      have hp := (w1 p).mp hp
      have hq := (w1 q).mp hq
      have p1 := cut_lt hC hp.1
      have q1 := cut_lt hC hq.1
      rw [relK_dn h b0 an p1.1 p1.2.2 hp.2, relK_dn h b0 an q1.1 q1.2.2 hq.2]
      omega
theorem CrsL.nd {n : Int} {l L : List (Int × Int)} {a b : Int} (h : CrsL n l a b L) : L.Nodup := h.key.imp fun h e => by rw [e] at h; exact Int.lt_irrefl _ h
theorem CrsL.uniq {n : Int} {l L M : List (Int × Int)} {a b : Int} (h : CrsL n l a b L) (k : CrsL n l a b M) : L = M := by
  refine List.Perm.eq_of_pairwise (le := fun p q : Int × Int => relK n a p < relK n a q) (fun x y _ _ h1 h2 => by omega) h.key k.key ((List.perm_ext_iff_of_nodup h.nd k.nd).mpr fun q => ?_)
  rw [h.mem, k.mem]
/-- a key and a rope, as they stand in the row -/
def KAt (K : PySem.W.Frag) (H : Hp) (x : V) (k : KR) : Prop := ∃ t u, x = V.ref t ∧ H t = some (.tup [.int k.1, .ref u]) ∧ H u = some (.tup [.int k.2.1, .int k.2.2])
theorem KAt.dp {H : Hp} {x : V} {k : KR} (h : KAt K H x k) : (∃ t, x = V.ref t) ∧ Dp K H x (encK k) := by
  obtain ⟨t, u, e, h1, h2⟩ := h
  subst e
  exact ⟨⟨t, rfl⟩, .tup (.inl (.inl h1)) (.cons (.int _) (.cons (.tup (.inl (.inl h2)) (.cons (.int _) (.cons (.int _) .nil))) .nil))⟩
theorem KAt.tups {H H' : Hp} {x : V} {k : KR} (s : TupS H H') (h : KAt K H x k) : KAt K H' x k := by
  obtain ⟨t, u, e, h1, h2⟩ := h
  exact ⟨t, u, e, s _ _ h1, s _ _ h2⟩
def keyed (n a : Int) (q : Int × Int) : KR := (relK n a q, q)
def sp_crossed (K : PySem.W.Frag) : Sp := fun vs H Q _ => ∃ (n a b : Int) (c : Addr) (xs : List V) (l : List (Int × Int)), vs = [.int n, .ref c, .int a, .int b] ∧ n ≤ 12 ∧ H c = some (.lst xs) ∧ PrL K H xs l ∧ l.length ≤ 100 ∧ IsCut n l ∧ 0 ≤ a ∧ a < n ∧ 0 ≤ b ∧ b < n ∧ a ≠ b ∧
  ∀ H' r zs L, Same H H' → H r = none → H' r = some (.lst zs) → PrL K H' zs L → CrsL n l a b L → Q (.ref r) H'
theorem pi_tupK {X : Cx} {tg l : Expr} {tl : TE} (hK : X.K = K) (hl : PE X l tl) : PI X tg l (iTup K tl) := by
  subst hK
  exact pi_tup hl
/-! ### comprehensions with two clauses: zip ahead, a tuple within -/
theorem lc2_zip {K : PySem.W.Frag} {a b : Addr} {xs ys : List V} {g g1 : TG} {tt tt1 : TT} {wi1 : TI} {te : TE} {vs vs1 : List Nat} {σ : L2.St} {H1 : Hp} {D : Addr} {Qd : Hp → Prop} (Pv : Nat → Hp → Prop) (h0 : Pv 0 (upd H1 D (.lst []))) (hq : ∀ i H, Pv i H → SqL K H a xs ∧ SqL K H b ys)
    (hs : ∀ (i : Nat) (x y : V) (T : Addr) (H : Hp), xs[i]? = some x → ys[i]? = some y → Pv i H → H T = none → g (.ref T) (wipe σ vs) (upd H T (.tup [x, y])) fun σ2 H2 => wipe σ2 vs = wipe σ vs ∧ tt σ2 H2 fun b H3 =>
      if b = true then wi1 σ2 H3 fun J1 H4 => ∃ W1 : Nat → Nat → Hp → Prop, (∃ m, W1 0 m H4) ∧ ∀ j k H, W1 j k H →
        (J1.stop j H ∧ Pv (i + 1) H) ∨ (J1.go j H ∧ ∃ Nx1 : Hp → Prop, (∀ H', Nx1 H' → ∃ k', k' < k ∧ W1 (j + 1) k' H') ∧ ∀ x H', J1.yld j H x H' → g1 x (wipe σ2 vs1) H' fun σ3 H5 => wipe σ3 vs1 = wipe σ2 vs1 ∧ tt1 σ3 H5 fun b H6 =>
          if b = true then te σ3 H6 fun y H7 => ∃ acc, H7 D = some (.lst acc) ∧ acc.length < sizeLine ∧ Nx1 (upd H7 D (.lst (acc ++ [y]))) else Nx1 H6)
      else Pv (i + 1) H3) (hd : ∀ H, Pv (min xs.length ys.length) H → Qd H) :
    ∃ W : Nat → Nat → Hp → Prop, (∃ m, W 0 m (upd H1 D (.lst []))) ∧ ∀ i m H, W i m H →
      ((Itz K a b).stop i H ∧ Qd H) ∨ ((Itz K a b).go i H ∧ ∃ Nx : Hp → Prop, (∀ H', Nx H' → ∃ m', m' < m ∧ W (i + 1) m' H') ∧ ∀ x H', (Itz K a b).yld i H x H' → g x (wipe σ vs) H' fun σ2 H2 => wipe σ2 vs = wipe σ vs ∧ tt σ2 H2 fun b H3 =>
        if b = true then wi1 σ2 H3 fun J1 H4 => ∃ W1 : Nat → Nat → Hp → Prop, (∃ m, W1 0 m H4) ∧ ∀ j k H, W1 j k H →
          (J1.stop j H ∧ Nx H) ∨ (J1.go j H ∧ ∃ Nx1 : Hp → Prop, (∀ H', Nx1 H' → ∃ k', k' < k ∧ W1 (j + 1) k' H') ∧ ∀ x H', J1.yld j H x H' → g1 x (wipe σ2 vs1) H' fun σ3 H5 => wipe σ3 vs1 = wipe σ2 vs1 ∧ tt1 σ3 H5 fun b H6 =>
            if b = true then te σ3 H6 fun y H7 => ∃ acc, H7 D = some (.lst acc) ∧ acc.length < sizeLine ∧ Nx1 (upd H7 D (.lst (acc ++ [y]))) else Nx1 H6)
        else Nx H3) := by
  refine ⟨fun i m H => m = min xs.length ys.length - i ∧ i ≤ min xs.length ys.length ∧ Pv i H, ⟨min xs.length ys.length, by simp, Nat.zero_le _, h0⟩, ?_⟩
  rintro i m H ⟨rfl, hi, p⟩
  obtain ⟨qx, qy⟩ := hq i H p
  by_cases hlt : i < min xs.length ys.length
  · have lx : i < xs.length := by omega
    have ly : i < ys.length := by omega
    refine .inr ⟨⟨xs, ys, xs[i], ys[i], qx, qy, List.getElem?_eq_getElem lx, List.getElem?_eq_getElem ly⟩, Pv (i + 1), fun H' p' => ⟨min xs.length ys.length - (i + 1), by omega, rfl, by omega, p'⟩, ?_⟩
    rintro x H' ⟨T, x', y', rfl, hT, rfl, f1, f2⟩
    exact hs i x' y' T H (f1 xs qx) (f2 ys qy) p hT
  · have e : i = min xs.length ys.length := by omega
    subst e
    exact .inl ⟨⟨xs, ys, qx, qy, by omega⟩, hd H p⟩
theorem lc_intup {K : PySem.W.Frag} {a : Addr} {xs : List V} {g : TG} {tt : TT} {te : TE} {vs : List Nat} {σ : L2.St} {H1 : Hp} {D : Addr} {Nx : Hp → Prop} (Pv : Nat → Hp → Prop) (h0 : Pv 0 H1) (hl : ∀ i H, i ≤ xs.length → Pv i H → SqT K H a xs)
    (hs : ∀ i x H, xs[i]? = some x → Pv i H → g x (wipe σ vs) H fun σ2 H2 => wipe σ2 vs = wipe σ vs ∧ tt σ2 H2 fun b H3 =>
      if b = true then te σ2 H3 fun y H4 => ∃ acc, H4 D = some (.lst acc) ∧ acc.length < sizeLine ∧ Pv (i + 1) (upd H4 D (.lst (acc ++ [y]))) else Pv (i + 1) H3) (hd : ∀ H, Pv xs.length H → Nx H) :
    ∃ W1 : Nat → Nat → Hp → Prop, (∃ m, W1 0 m H1) ∧ ∀ j k H, W1 j k H →
      ((Itt K a).stop j H ∧ Nx H) ∨ ((Itt K a).go j H ∧ ∃ Nx1 : Hp → Prop, (∀ H', Nx1 H' → ∃ k', k' < k ∧ W1 (j + 1) k' H') ∧ ∀ x H', (Itt K a).yld j H x H' → g x (wipe σ vs) H' fun σ3 H5 => wipe σ3 vs = wipe σ vs ∧ tt σ3 H5 fun b H6 =>
        if b = true then te σ3 H6 fun y H7 => ∃ acc, H7 D = some (.lst acc) ∧ acc.length < sizeLine ∧ Nx1 (upd H7 D (.lst (acc ++ [y]))) else Nx1 H6) := by
  refine ⟨fun i m H => m = xs.length - i ∧ i ≤ xs.length ∧ Pv i H, ⟨xs.length, by simp, Nat.zero_le _, h0⟩, ?_⟩
  rintro i m H ⟨rfl, hi, p⟩
  have q := hl i H hi p
  by_cases hlt : i < xs.length
  · refine .inr ⟨⟨xs, xs[i], q, by simp [hlt]⟩, Pv (i + 1), fun H' p' => ⟨xs.length - (i + 1), by omega, rfl, hlt, p'⟩, fun x H' y => ?_⟩
    obtain ⟨e, y⟩ := y
    subst e
    exact hs i x _ (y xs q) p
  · have e : i = xs.length := by omega
    subst e
    exact .inl ⟨⟨xs, q, Nat.le_refl _⟩, hd H p⟩
/-! ### the posts beside the ropes crossed, on the far side -/
def farOf (p q : Int × Int) : Int := if q.1 = p.1 ∨ q.1 = p.2 then q.2 else q.1
def farL (L : List (Int × Int)) : List Int := List.zipWith farOf L (L.drop 1)
theorem nx_one {t : Int × Int → Prop} {p q : Int × Int} (h : Nx t p q) : ((q.1 = p.1 ∨ q.1 = p.2) ∧ ¬ (q.2 = p.1 ∨ q.2 = p.2)) ∨ (¬ (q.1 = p.1 ∨ q.1 = p.2) ∧ (q.2 = p.1 ∨ q.2 = p.2)) := by
  obtain ⟨s, c, f, n1, n2, n3, e1, e2, k⟩ := h
  subst e1; subst e2
  show ((min s f = min s c ∨ min s f = max s c) ∧ ¬ (max s f = min s c ∨ max s f = max s c)) ∨ (¬ (min s f = min s c ∨ min s f = max s c) ∧ (max s f = min s c ∨ max s f = max s c))
  omega
theorem filt_one {p q : Int × Int} (h : ((q.1 = p.1 ∨ q.1 = p.2) ∧ ¬ (q.2 = p.1 ∨ q.2 = p.2)) ∨ (¬ (q.1 = p.1 ∨ q.1 = p.2) ∧ (q.2 = p.1 ∨ q.2 = p.2))) : [q.1, q.2].filter (fun z => decide (¬ (z = p.1 ∨ z = p.2))) = [farOf p q] := by
  unfold farOf
  rcases h with ⟨h1, h2⟩ | ⟨h1, h2⟩
  · rw [if_pos h1, List.filter_cons, List.filter_cons, if_neg (by rw [decide_eq_true_eq]; exact fun n => n h1), if_pos (by rw [decide_eq_true_eq]; exact h2)]
    rfl
  · rw [if_neg h1, List.filter_cons, List.filter_cons, if_pos (by rw [decide_eq_true_eq]; exact h1), if_neg (by rw [decide_eq_true_eq]; exact fun n => n h2)]
    rfl
def sp_far (K : PySem.W.Frag) : Sp := fun vs H Q _ => ∃ (c : Addr) (b : Int) (xs : List V) (L : List (Int × Int)) (t : Int × Int → Prop), vs = [.ref c, .int b] ∧ H c = some (.lst xs) ∧ PrL K H xs L ∧ L.length ≤ 100 ∧ Linked t L ∧
  ∀ H' r, Same H H' → H r = none → H' r = some (.lst ((farL L ++ [b]).map V.int)) → Q (.ref r) H'
/-! ### across, laid -/
def sp_across (K : PySem.W.Frag) : Sp := fun vs H Q _ => ∃ (d : Addr) (x y : V) (dom : List (Int × Int)) (f : Int × Int → Int × Int) (p q : Int × Int), vs = [.ref d, x, y] ∧ PrAt K H x p ∧ PrAt K H y q ∧ FD K H d dom f ∧
  pr q.1 p.1 ∈ dom ∧ pr q.2 p.2 ∈ dom ∧ pr q.1 p.2 ∈ dom ∧ pr q.2 p.1 ∈ dom ∧ p ∈ dom ∧ F2 1800 1020 (f (pr q.1 p.1)) ∧ F2 1800 1020 (f (pr q.2 p.2)) ∧ F2 1800 1020 (f (pr q.1 p.2)) ∧ F2 1800 1020 (f (pr q.2 p.1)) ∧ F2 1800 1020 (f p) ∧
  ∀ H' v, Same H H' → PrAt K H' v (acrV f p q) → Q v H'
theorem sep_up {n a b s c f : Int} (ab : a < b) (a0 : 0 ≤ a) (bn : b < n) (s0 : 0 ≤ s) (sn : s < n) (c0 : 0 ≤ c) (cn : c < n) (f0 : 0 ≤ f) (fn : f < n) (n1 : s ≠ c) (n2 : s ≠ f) (n3 : c ≠ f) (h1 : Crs (pr s c) a b) (h2 : Crs (pr s f) a b) (hk : keyR n a (pr s c) < keyR n a (pr s f)) :
    Crs (pr s c) (min a f) (max a f) := by
  unfold Crs keyR pr at *
  simp only at *
  rcases Int.lt_or_lt_of_ne n1 with e1 | e1 <;> rcases Int.lt_or_lt_of_ne n2 with e2 | e2
  · rw [Int.min_eq_left (by omega), Int.max_eq_right (by omega)] at *
    rw [Int.min_eq_left (by omega : s ≤ f), Int.max_eq_right (by omega : s ≤ f)] at *
    split at hk <;> (try split at hk) <;> omega
  · rw [Int.min_eq_left (by omega : s ≤ c), Int.max_eq_right (by omega : s ≤ c)] at *
    rw [Int.min_eq_right (by omega : f ≤ s), Int.max_eq_left (by omega : f ≤ s)] at *
    split at hk <;> (try split at hk) <;> omega
  · rw [Int.min_eq_right (by omega : c ≤ s), Int.max_eq_left (by omega : c ≤ s)] at *
    rw [Int.min_eq_left (by omega : s ≤ f), Int.max_eq_right (by omega : s ≤ f)] at *
    split at hk <;> (try split at hk) <;> omega
  · rw [Int.min_eq_right (by omega : c ≤ s), Int.max_eq_left (by omega : c ≤ s)] at *
    rw [Int.min_eq_right (by omega : f ≤ s), Int.max_eq_left (by omega : f ≤ s)] at *
    split at hk <;> (try split at hk) <;> omega
theorem sep_dn {n a b s c f : Int} (ab : b < a) (b0 : 0 ≤ b) (an : a < n) (s0 : 0 ≤ s) (sn : s < n) (c0 : 0 ≤ c) (cn : c < n) (f0 : 0 ≤ f) (fn : f < n) (n1 : s ≠ c) (n2 : s ≠ f) (n3 : c ≠ f) (h1 : Crs (pr s c) b a) (h2 : Crs (pr s f) b a) (hk : keyR n b (pr s f) < keyR n b (pr s c)) :
    Crs (pr s c) (min a f) (max a f) := by
  unfold Crs keyR pr at *
  simp only at *
  rcases Int.lt_or_lt_of_ne n1 with e1 | e1 <;> rcases Int.lt_or_lt_of_ne n2 with e2 | e2
  · rw [Int.min_eq_left (by omega : s ≤ c), Int.max_eq_right (by omega : s ≤ c)] at *
    rw [Int.min_eq_left (by omega : s ≤ f), Int.max_eq_right (by omega : s ≤ f)] at *
    split at hk <;> (try split at hk) <;> omega
  · rw [Int.min_eq_left (by omega : s ≤ c), Int.max_eq_right (by omega : s ≤ c)] at *
    rw [Int.min_eq_right (by omega : f ≤ s), Int.max_eq_left (by omega : f ≤ s)] at *
    split at hk <;> (try split at hk) <;> omega
  · rw [Int.min_eq_right (by omega : c ≤ s), Int.max_eq_left (by omega : c ≤ s)] at *
    rw [Int.min_eq_left (by omega : s ≤ f), Int.max_eq_right (by omega : s ≤ f)] at *
    split at hk <;> (try split at hk) <;> omega
  · rw [Int.min_eq_right (by omega : c ≤ s), Int.max_eq_left (by omega : c ≤ s)] at *
    rw [Int.min_eq_right (by omega : f ≤ s), Int.max_eq_left (by omega : f ≤ s)] at *
    split at hk <;> (try split at hk) <;> omega

/-! ### reach: the lengths on the way -/
structure FWd (n : Int) (v : Int → V2) (dom : List (Int × Int)) (f : Int × Int → Int × Int) : Prop where
  on : ∀ q ∈ dom, 0 ≤ q.1 ∧ q.1 < q.2 ∧ q.2 < n ∧ f q = frq (Wd v q.1 q.2)
structure WdB (n : Int) (v : Int → V2) : Prop where
  pos : ∀ i j, 0 ≤ i → i < j → j < n → 0 < Wd v i j
  f2 : ∀ i j, 0 ≤ i → i < j → j < n → F2 1762 1002 (frq (Wd v i j))
theorem FWd.fr {n : Int} {v : Int → V2} {dom : List (Int × Int)} {f : Int × Int → Int × Int} (h : FWd n v dom f) (hB : WdB n v) {q : Int × Int} (hq : q ∈ dom) : F2 1800 1020 (f q) := by
  obtain ⟨a, b, c, e⟩ := h.on q hq
  rw [e]
  exact (hB.f2 _ _ a b c).more (by decide) (by decide)
theorem acr_wd {n : Int} {v : Int → V2} {dom : List (Int × Int)} {f : Int × Int → Int × Int} (h : FWd n v dom f) (hB : WdB n v) {p q : Int × Int} (hp : p ∈ dom) (hc : Crs p q.1 q.2) (hq : q.1 < q.2)
    (k1 : pr q.1 p.1 ∈ dom) (k2 : pr q.2 p.2 ∈ dom) (k3 : pr q.1 p.2 ∈ dom) (k4 : pr q.2 p.1 ∈ dom) : acrV f p q = frq (Wd v q.1 q.2) := by
  obtain ⟨p0, p1, p2, ep⟩ := h.on p hp
  have e1 := (h.on _ k1).2.2.2
  have e2 := (h.on _ k2).2.2.2
  have e3 := (h.on _ k3).2.2.2
  have e4 := (h.on _ k4).2.2.2
  have np := rpos_ne (hB.pos _ _ p0 p1 p2)
  unfold acrV
  rw [e1, e2, e3, e4, ep, mulV_q, mulV_q, addV_q, divV_q _ np]
  congr 1
  rcases hc with ⟨c1, c2, c3⟩ | ⟨c1, c2, c3⟩
  · rw [prg c1, prg c3, prl c2, prg (show p.1 < q.2 by omega)]
    simp only
    have P : Wd v p.1 p.2 * Wd v q.1 q.2 = Wd v p.1 q.1 * Wd v p.2 q.2 + Wd v q.1 p.2 * Wd v p.1 q.2 := by unfold Wd det; grind
    generalize Wd v p.1 q.1 * Wd v p.2 q.2 + Wd v q.1 p.2 * Wd v p.1 q.2 = N at *
    generalize Wd v p.1 p.2 = D at *
    generalize Wd v q.1 q.2 = X at *
    subst P
    grind
  · rw [prl c1, prl c3, prl (show q.1 < p.2 by omega), prg c2]
    simp only
    have P : Wd v p.1 p.2 * Wd v q.1 q.2 = Wd v q.1 p.1 * Wd v q.2 p.2 + Wd v q.1 p.2 * Wd v p.1 q.2 := by unfold Wd det; grind
    generalize Wd v q.1 p.1 * Wd v q.2 p.2 + Wd v q.1 p.2 * Wd v p.1 q.2 = N at *
    generalize Wd v p.1 p.2 = D at *
    generalize Wd v q.1 q.2 = X at *
    subst P
    grind
theorem farL_len (L : List (Int × Int)) : (farL L).length = L.length - 1 := by
  unfold farL
  rw [List.length_zipWith, List.length_drop]
  omega
theorem farL_at {L : List (Int × Int)} {i : Nat} {p q : Int × Int} (hp : L[i]? = some p) (hq : L[i + 1]? = some q) : (farL L)[i]? = some (farOf p q) := by
  unfold farL
  rw [List.getElem?_zipWith, hp, List.getElem?_drop, Nat.add_comm, hq]
theorem far_of_nx {t : Int × Int → Prop} {p q : Int × Int} (h : Nx t p q) : ∃ s c, s ≠ c ∧ s ≠ farOf p q ∧ c ≠ farOf p q ∧ p = pr s c ∧ q = pr s (farOf p q) ∧ t (pr c (farOf p q)) := by
  obtain ⟨s, c, f, n1, n2, n3, e1, e2, k⟩ := h
  have ef : farOf p q = f := by
    subst e1; subst e2
    show (if min s f = min s c ∨ min s f = max s c then max s f else min s f) = f
    split <;> omega
  rw [ef]
  exact ⟨s, c, n1, n2, n3, e1, e2, k⟩
/-- what a turn needs -/
theorem crs_turn {n : Int} {l L : List (Int × Int)} {a b : Int} (hC : IsCut n l) (hL : CrsL n l a b L) (a0 : 0 ≤ a) (an : a < n) (b0 : 0 ≤ b) (bn : b < n) (ab : a ≠ b) {i : Nat} {p : Int × Int} {z : Int} (hp : L[i]? = some p) (hz : (farL L ++ [b])[i]? = some z) :
    Crs p (min a z) (max a z) ∧ pr z p.1 ∈ tiesS n l ∧ pr z p.2 ∈ tiesS n l ∧ a ≠ z ∧ 0 ≤ z ∧ z < n := by
  have hpm := (hL.mem p).mp (List.mem_of_getElem? hp)
  have pl := cut_lt hC hpm.1
  have pc := (crossI_crs ab (by omega)).mp hpm.2
  have hil := (List.getElem?_eq_some_iff.mp hp).1
  have hfl := farL_len L
  by_cases c : i + 1 < L.length
  · have hq := List.getElem?_eq_getElem c
    generalize L[i + 1] = q at *
    rw [List.getElem?_append_left (by omega), farL_at hp hq] at hz
    obtain rfl := Option.some.inj hz
    obtain ⟨s, e, n1, n2, n3, e1, e2, kt⟩ := far_of_nx (hL.walk.link i p q hp hq)
    have hqm := (hL.mem q).mp (List.mem_of_getElem? hq)
    have ql := cut_lt hC hqm.1
    have qc := (crossI_crs ab (by omega)).mp hqm.2
    have hk : relK n a p < relK n a q := by
      obtain ⟨l1, g1⟩ := List.getElem?_eq_some_iff.mp hp
      obtain ⟨l2, g2⟩ := List.getElem?_eq_some_iff.mp hq
      have := List.pairwise_iff_getElem.mp hL.key i (i + 1) l1 l2 (by omega)
      rw [g1, g2] at this
      exact this
    generalize farOf p q = f at *
    have tf := tie_bd hC kt
    have bs : 0 ≤ s ∧ s < n ∧ 0 ≤ e ∧ e < n ∧ 0 ≤ f ∧ f < n := by
      rw [e1] at pl
      rw [e2] at ql
      have pl : 0 ≤ min s e ∧ min s e + 2 ≤ max s e ∧ max s e < n := pl
      have ql : 0 ≤ min s f ∧ min s f + 2 ≤ max s f ∧ max s f < n := ql
      omega
    have tq : pr f s ∈ tiesS n l := by rw [pr_comm, ← e2]; exact rope_tie hqm.1
    have te : pr f e ∈ tiesS n l := by rw [pr_comm]; exact kt
    have hcr : Crs p (min a f) (max a f) := by
      rcases Int.lt_or_lt_of_ne ab with h | h
      · rw [Int.min_eq_left (by omega), Int.max_eq_right (by omega)] at pc qc
        rw [relK_up h a0 bn pl.1 pl.2.2 pc, relK_up h a0 bn ql.1 ql.2.2 qc] at hk
        rw [e1, e2] at hk
        rw [e1] at pc ⊢
        rw [e2] at qc
        exact sep_up h a0 bn bs.1 bs.2.1 bs.2.2.1 bs.2.2.2.1 bs.2.2.2.2.1 bs.2.2.2.2.2 n1 n2 n3 pc qc hk
      · rw [Int.min_eq_right (by omega), Int.max_eq_left (by omega)] at pc qc
        rw [relK_dn h b0 an pl.1 pl.2.2 pc, relK_dn h b0 an ql.1 ql.2.2 qc] at hk
        rw [e1, e2] at hk
        rw [e1] at pc ⊢
        rw [e2] at qc
        exact sep_dn h b0 an bs.1 bs.2.1 bs.2.2.1 bs.2.2.2.1 bs.2.2.2.2.1 bs.2.2.2.2.2 n1 n2 n3 pc qc (by omega)
    refine ⟨hcr, ?_, ?_, fun e0 => ?_, bs.2.2.2.2.1, bs.2.2.2.2.2⟩
    · rw [e1]
      rcases pr_or s e with w | w <;> rw [w]
      · exact tq
      · exact te
    · rw [e1]
      rcases pr_or s e with w | w <;> rw [w]
      · exact te
      · exact tq
    · subst e0
      unfold Crs at hcr
      omega
  · rw [List.getElem?_append_right (by omega), show i - (farL L).length = 0 by omega] at hz
    have hz : b = z := Option.some.inj hz
    subst hz
    have ha := hL.walk.lst p (by rw [show L.length - 1 = i by omega]; exact hp)
    exact ⟨pc, ha.1, ha.2.1, ab, b0, bn⟩
/-- which lengths from a are known ahead of a turn -/
def Known (a b : Int) (L dom : List (Int × Int)) (i : Nat) : Prop := (∀ p, L[i]? = some p → pr a p.1 ∈ dom ∧ pr a p.2 ∈ dom) ∧ (L.length ≤ i → pr a b ∈ dom)
theorem known_zero {n : Int} {l L dom : List (Int × Int)} {a b : Int} (hL : CrsL n l a b L) (hd : ∀ q ∈ tiesS n l, q ∈ dom) : Known a b L dom 0 := by
  refine ⟨fun p hp => ?_, fun h => ?_⟩
  · have := hL.walk.fst p hp
    exact ⟨hd _ this.1, hd _ this.2.1⟩
  · exact hd _ (hL.walk.emp (List.length_eq_zero_iff.mp (by omega)))
theorem known_next {n : Int} {l L dom dom' : List (Int × Int)} {a b : Int} (hL : CrsL n l a b L) {i : Nat} {p : Int × Int} {z : Int} (h : Known a b L dom i) (hp : L[i]? = some p) (hz : (farL L ++ [b])[i]? = some z) (hs : ∀ q ∈ dom, q ∈ dom') (hn : pr a z ∈ dom') : Known a b L dom' (i + 1) := by
  have hil := (List.getElem?_eq_some_iff.mp hp).1
  have hfl := farL_len L
  have h1 := h.1 p hp
  refine ⟨fun q hq => ?_, fun hle => ?_⟩
  · have hql := (List.getElem?_eq_some_iff.mp hq).1
    rw [List.getElem?_append_left (by omega), farL_at hp hq] at hz
    obtain rfl := Option.some.inj hz
    obtain ⟨s, e, n1, n2, n3, e1, e2, kt⟩ := far_of_nx (hL.walk.link i p q hp hq)
    have hs' : pr a s ∈ dom' := by
      rw [e1] at h1
      rcases pr_or s e with w | w <;> rw [w] at h1
      · exact hs _ h1.1
      · exact hs _ h1.2
    generalize farOf p q = f at *
    rw [e2]
    rcases pr_or s f with w | w <;> rw [w]
    · exact ⟨hs', hn⟩
    · exact ⟨hn, hs'⟩
  · rw [List.getElem?_append_right (by omega), show i - (farL L).length = 0 by omega] at hz
    have hz : b = z := Option.some.inj hz
    subst hz
    exact hn
theorem nodup_sub_len : ∀ {l m : List (Int × Int)}, l.Nodup → (∀ x ∈ l, x ∈ m) → l.length ≤ m.length
  | [], _, _, _ => Nat.zero_le _
  | x :: l, m, hn, hs => by
    have hx := hs x (List.mem_cons_self ..)
    have h := nodup_sub_len (l := l) (m := m.erase x) (List.nodup_cons.mp hn).2 fun y hy => by
      have hne : y ≠ x := fun e => (List.nodup_cons.mp hn).1 (e ▸ hy)
      exact (List.mem_erase_of_ne hne).mpr (hs y (List.mem_cons_of_mem _ hy))
    rw [List.length_erase_of_mem hx] at h
    have := List.length_pos_of_mem hx
    rw [List.length_cons]
    omega
theorem fd_few {H : Hp} {a : Addr} {dom : List (Int × Int)} {f : Int × Int → Int × Int} (h : FD K H a dom f) : dom.length ≤ 169 := by
  refine nodup_sub_len (m := smallPs) h.nd fun p hp => ?_
  obtain ⟨a1, a2, b1, b2⟩ := h.sm p hp
  unfold smallPs
  rw [List.mem_map]
  refine ⟨p.1.toNat * 13 + p.2.toNat, List.mem_range.mpr (by omega), ?_⟩
  refine Prod.ext ?_ ?_
  · simp only; omega
  · simp only; omega
/-- all but the dict at F stands -/
def SameX (F : Addr) (H H' : Hp) : Prop := ∀ b o, b ≠ F → H b = some o → H' b = some o
theorem SameX.trans {F : Addr} {H H' H2 : Hp} (h : SameX F H H') (k : SameX F H' H2) : SameX F H H2 := fun b o hb e => k b o hb (h b o hb e)
theorem SameX.of {F : Addr} {H H' : Hp} (h : Same H H') : SameX F H H' := fun b o _ e => h b o e
theorem SameX.tups {F : Addr} {H H' : Hp} {o : HO} (h : SameX F H H') (e : H F = some o) (nt : ∀ ys, o ≠ .tup ys) : TupS H H' := fun t ys et => h t _ (fun z => by rw [z, e] at et; exact nt ys (Option.some.inj et)) et
theorem SameX.same {F : Addr} {H0 H H' : Hp} (s : Same H0 H) (h0 : H0 F = none) (h : SameX F H H') : Same H0 H' := fun b o e => h b o (ne_of_none e h0) (s b o e)
theorem for_zipM {K : PySem.W.Frag} {a b : Addr} {xs ys : List V} {g : TG} {tb : TS} {D : Ends} {σ : L2.St} {H : Hp} (Pv : Nat → L2.St → Hp → Prop) (h0 : Pv 0 σ H) (hq : ∀ i σ H, Pv i σ H → SqL K H a xs ∧ SqL K H b ys)
    (hs : ∀ (i : Nat) (x y : V) (T : Addr) (σ : L2.St) (H : Hp), xs[i]? = some x → ys[i]? = some y → Pv i σ H → H T = none → g (.ref T) σ (upd H T (.tup [x, y])) fun σ2 H2 => tb { D with nx := Pv (i + 1), ct := Pv (i + 1), bk := D.nx } σ2 H2) (hd : ∀ σ H, Pv (min xs.length ys.length) σ H → D.nx σ H) :
    ∃ W : Nat → Nat → L2.St → Hp → Prop, (∃ m, W 0 m σ H) ∧ ∀ i m σ H, W i m σ H →
      ((Itz K a b).stop i H ∧ D.nx σ H) ∨ ((Itz K a b).go i H ∧ ∃ N : L2.St → Hp → Prop, (∀ σ' H', N σ' H' → ∃ m', m' < m ∧ W (i + 1) m' σ' H') ∧ ∀ v H', (Itz K a b).yld i H v H' → g v σ H' fun σ2 H2 => tb { D with nx := N, ct := N, bk := D.nx } σ2 H2) := by
  refine ⟨fun i m σ H => m = min xs.length ys.length - i ∧ i ≤ min xs.length ys.length ∧ Pv i σ H, ⟨min xs.length ys.length, rfl, Nat.zero_le _, h0⟩, ?_⟩
  rintro i m σ H ⟨rfl, hi, p⟩
  obtain ⟨qx, qy⟩ := hq i σ H p
  by_cases hlt : i < min xs.length ys.length
  · have lx : i < xs.length := by omega
    have ly : i < ys.length := by omega
    refine .inr ⟨⟨xs, ys, _, _, qx, qy, List.getElem?_eq_getElem lx, List.getElem?_eq_getElem ly⟩, Pv (i + 1), fun σ' H' p' => ⟨min xs.length ys.length - (i + 1), by omega, rfl, by omega, p'⟩, fun v H' y => ?_⟩
    obtain ⟨T, x', y', rfl, hT, rfl, f1, f2⟩ := y
    exact hs i x' y' T σ H (f1 xs qx) (f2 ys qy) p hT
  · have e : i = min xs.length ys.length := by omega
    subst e
    exact .inl ⟨⟨xs, ys, qx, qy, by omega⟩, hd σ H p⟩
def sp_reach (K : PySem.W.Frag) : Sp := fun vs H Q _ => ∃ (n a b : Int) (F c : Addr) (xs : List V) (l dom : List (Int × Int)) (f : Int × Int → Int × Int) (v : Int → V2), vs = [.ref F, .int n, .ref c, .int a, .int b] ∧ n ≤ 12 ∧ H c = some (.lst xs) ∧ PrL K H xs l ∧ l.length ≤ 100 ∧ IsCut n l ∧ 0 ≤ a ∧ a < n ∧ 0 ≤ b ∧ b < n ∧ a ≠ b ∧
  FD K H F dom f ∧ FWd n v dom f ∧ WdB n v ∧ (∀ q ∈ tiesS n l, q ∈ dom) ∧
  ∀ H' dom' f', SameX F H H' → FD K H' F dom' f' → FWd n v dom' f' → (∀ q ∈ dom, q ∈ dom') → pr a b ∈ dom' → Q .non H'
/-! ### pairs of posts, in order -/
theorem for_cbR {vs0 : List V} {L : List (List Nat)} {g : TG} {tb : TS} {D : Ends} {σ : L2.St} {H : Hp} (Pv : Nat → L2.St → Hp → Prop) (h0 : Pv 0 σ H)
    (hs : ∀ (i : Nat) (ix : List Nat) (T : Addr) (σ : L2.St) (H : Hp), L[i]? = some ix → Pv i σ H → H T = none → g (.ref T) σ (upd H T (.tup (Cb.pickV vs0 ix))) fun σ2 H2 => tb { D with nx := Pv (i + 1), ct := Pv (i + 1), bk := D.nx } σ2 H2) (hd : ∀ σ H, Pv L.length σ H → D.nx σ H) :
    ∃ W : Nat → Nat → L2.St → Hp → Prop, (∃ m, W 0 m σ H) ∧ ∀ i m σ H, W i m σ H →
      ((Cb.ItC vs0 L).stop i H ∧ D.nx σ H) ∨ ((Cb.ItC vs0 L).go i H ∧ ∃ N : L2.St → Hp → Prop, (∀ σ' H', N σ' H' → ∃ m', m' < m ∧ W (i + 1) m' σ' H') ∧ ∀ v H', (Cb.ItC vs0 L).yld i H v H' → g v σ H' fun σ2 H2 => tb { D with nx := N, ct := N, bk := D.nx } σ2 H2) := by
  refine ⟨fun i m σ H => m = L.length - i ∧ i ≤ L.length ∧ Pv i σ H, ⟨L.length, rfl, Nat.zero_le _, h0⟩, ?_⟩
  rintro i m σ H ⟨rfl, hi, p⟩
  by_cases hlt : i < L.length
  · refine .inr ⟨hlt, Pv (i + 1), fun σ' H' p' => ⟨L.length - (i + 1), by omega, rfl, hlt, p'⟩, ?_⟩
    rintro x H' ⟨T, ix, e, rfl, hT, rfl⟩
    exact hs i ix T σ H e p hT
  · have e : i = L.length := by omega
    subst e
    exact .inl ⟨Nat.le_refl _, hd σ H p⟩
def twoCk (m : Nat) : Bool := ((List.range m).all fun i => (List.range m).all fun j => !decide (i < j) || decide ([i, j] ∈ Cb.cmb 2 (List.range m))) && ((Cb.cmb 2 (List.range m)).all fun v => decide (v = [v.getD 0 0, v.getD 1 0]) && decide (v.getD 0 0 < v.getD 1 0) && decide (v.getD 1 0 < m))
theorem twoCk_all : ((List.range 13).all twoCk) = true := by decide +kernel
theorem two_of {m : Nat} (h : m ≤ 12) : (∀ i j, i < j → j < m → [i, j] ∈ Cb.cmb 2 (List.range m)) ∧ ∀ v ∈ Cb.cmb 2 (List.range m), ∃ i j, v = [i, j] ∧ i < j ∧ j < m := by
  have h1 := List.all_eq_true.mp twoCk_all m (List.mem_range.mpr (by omega))
  unfold twoCk at h1
  rw [Bool.and_eq_true, List.all_eq_true, List.all_eq_true] at h1
  refine ⟨fun i j ij jm => ?_, fun v hv => ?_⟩
  · have h2 := h1.1 i (List.mem_range.mpr (by omega))
    rw [List.all_eq_true] at h2
    have h3 := h2 j (List.mem_range.mpr jm)
    rw [Bool.or_eq_true, Bool.not_eq_true', decide_eq_false_iff_not, decide_eq_true_eq] at h3
    exact h3.resolve_left (fun n => n ij)
  · have h2 := h1.2 v hv
    rw [Bool.and_eq_true, Bool.and_eq_true, decide_eq_true_eq, decide_eq_true_eq, decide_eq_true_eq] at h2
    exact ⟨_, _, h2.1.1, h2.1.2, h2.2⟩
theorem pick_two {n : Int} {i j : Nat} (hi : i < n.toNat) (hj : j < n.toNat) : Cb.pickV (rgV 0 n) [i, j] = [.int (i : Int), .int (j : Int)] := by
  unfold Cb.pickV
  rw [List.map_cons, List.map_cons, List.map_nil]
  have go : ∀ {k : Nat}, k < n.toNat → (rgV 0 n).getD k .non = V.int (k : Int) := fun {k} hk => by
    unfold rgV
    rw [List.getD_eq_getElem?_getD, List.getElem?_map, List.getElem?_range (by omega)]
    simp
  rw [go hi, go hj]
/-! ### rows whose places may be the program's own nought -/
def PrS (K : PySem.W.Frag) (H : Hp) (x : V) (p : Int × Int) : Prop := ∃ t, x = V.ref t ∧ SqT K H t [.int p.1, .int p.2]
theorem PrAt.s {H : Hp} {x : V} {p : Int × Int} (h : PrAt K H x p) : PrS K H x p := h.sq
theorem PrS.mono {H H' : Hp} {x : V} {p : Int × Int} (s : Same H H') (h : PrS K H x p) : PrS K H' x p := by
  obtain ⟨t, e, ht⟩ := h
  refine ⟨t, e, ?_⟩
  rcases ht with (h | ⟨d, h⟩) | h
  · exact .inl (.inl (s _ _ h))
  · exact .inl (.inr ⟨d, s _ _ h⟩)
  · exact .inr h
theorem nought_sq (T : Env K mg) (H : Hp) : SqT K H T.o_NOUGHT [.int 0, .int 1] := by
  obtain ⟨oc, n, sl, t0, t1, e⟩ := T.l_NOUGHT
  exact .inr ⟨_, _, n, e, rfl, rfl, by show 2 ≤ sizeLine; decide, .cons ⟨t0, rfl⟩ (.cons ⟨t1, rfl⟩ .nil)⟩
structure RowsS (K : PySem.W.Frag) (H0 H : Hp) (R : Addr) (rs : List Addr) (w : Nat) (g : Nat → Nat → Rat) : Prop where
  s : Same H0 H
  top : H R = some (.lst (rs.map V.ref))
  nR : R ∉ rs
  new : ∀ r ∈ rs, H0 r = none
  R0 : H0 R = none
  row : ∀ i r, rs[i]? = some r → ∃ xs : List V, H r = some (.lst xs) ∧ xs.length = w ∧ ∀ k x, xs[k]? = some x → PrS K H x (frq (g i k))
def sp_table (K : PySem.W.Frag) : Sp := fun vs H Q _ => ∃ (n : Int) (c d : Addr) (xs : List V) (l dom : List (Int × Int)) (f : Int × Int → Int × Int) (v : Int → V2), vs = [.int n, .ref c, .ref d] ∧ n ≤ 12 ∧ H c = some (.lst xs) ∧ PrL K H xs l ∧ l.length ≤ 100 ∧ IsCut n l ∧
  FD K H d dom f ∧ (∀ p, p ∈ dom ↔ p ∈ tiesS n l) ∧ (∀ q ∈ tiesS n l, f q = frq (Wd v q.1 q.2)) ∧ WdB n v ∧
  ∀ H' R rs, RowsS K H H' R rs n.toNat (lenG v) → rs.length = n.toNat → Q (.ref R) H'
/-! ### the law's looks at told tables -/
theorem tyx_sq {H : Hp} {a : Addr} {xs : List V} (h : SqT K H a xs) : TyX K H (.ref a) (.type "tuple") := by
  rcases h with (e | ⟨o, e⟩) | ⟨o, its, n, e, c, _⟩
  · exact .base (.tup e)
  · exact .fTuple e
  · exact .kTuple e c
theorem SqT.same {H H' : Hp} {a : Addr} {xs : List V} (s : Same H H') (h : SqT K H a xs) : SqT K H' a xs := by
  rcases h with (e | ⟨o, e⟩) | h
  · exact .inl (.inl (s _ _ e))
  · exact .inl (.inr ⟨o, s _ _ e⟩)
  · exact .inr h
theorem PrS.dp {H : Hp} {x : V} {p : Int × Int} (h : PrS K H x p) : Dp K H x (dat2 p) := by
  obtain ⟨t, e, ht⟩ := h
  subst e
  exact .tup ht (.cons (.int _) (.cons (.int _) .nil))
def sp_partS (K : PySem.W.Frag) : Sp := fun vs H Q _ => ∃ (v : V) (x : Int × Int), vs = [v] ∧ PrS K H v x ∧ Low x.1 x.2 ∧ x.2.natAbs.log2 < 9000 ∧ ∀ H', Same H H' → Q (.bl true) H'
theorem ok__law_partS (T : Env K mg) (su : SupP flM P) : FnOk P w K mg base CX0 2 T.a__law_part T.fd__law_part ["_law_found"] (sp_partS K) := by
  refine T.F__law_part.ok sc__law_part (fun vs H Q E h => ?_) (fun cdv A outer s H vs Q E hr h => ?_)
  · obtain ⟨v, x, rfl, _⟩ := h
    rfl
  · obtain ⟨v, ⟨x, y⟩, rfl, ⟨p, rfl, hS⟩, hL, hlog, q⟩ := h
    refine ⟨_, (pss_cons (ps_if (PW.pt (pw_or (pt_not (pt_val (pe_callB call_isi (by rfl) T.m_isinstance (by decide +kernel) (pa_cons (pv 0) (pa_cons (pe_bltn (v := .ty "tuple") (u := .type "tuple") (by rfl) T.m_tuple (by decide +kernel) rfl) pa_nil))))) (pw_or1 (pt_cmpR op_ne (pe_callB (id := "len") call_len_seq (by rfl) T.m_len (by decide +kernel) (pa_cons (pv 0) pa_nil)) pe_int (nomark _)))))
 (pss_one (ps_ret pe_bl))
 pss_nil)
 (pss_cons (ps_if (PW.pt (pw_or (pt_not (pt_val (pe_call (ok__law_whole T su) (hr.mono (by decide)) (by rfl) T.g__law_whole T.F__law_whole.kp T.b__law_whole .nil pass0 (pa_cons (pe_ix ix_tup (pv 0) pe_int (fun _ _ => rfl)) pa_nil)))) (pw_or (pt_not (pt_val (pe_call (ok__law_whole T su) (hr.mono (by decide)) (by rfl) T.g__law_whole T.F__law_whole.kp T.b__law_whole .nil pass0 (pa_cons (pe_ix ix_tup (pv 0) pe_int (fun _ _ => rfl)) pa_nil)))) (pw_or1 (pt_cmpR op_le (pe_ix ix_tup (pv 0) pe_int (fun _ _ => rfl)) pe_int (nomark _))))))
 (pss_one (ps_ret pe_bl))
 pss_nil)
 (pss_one (ps_ret (pe_cmpR (op_eqD hr.units) (pe_call (ok__law_low T su) (hr.mono (by decide)) (by rfl) T.g__law_low T.F__law_low.kp T.b__law_low .nil pass0 (pa_cons (pe_ix ix_tup (pv 0) pe_int (fun _ _ => rfl)) (pa_cons (pe_ix ix_tup (pv 0) pe_int (fun _ _ => rfl)) pa_nil))) (pv 0) (nomark _)))))), ?_⟩
    have hS : SqT K H p [.int x, .int y] := hS
    have hL : Low x y := hL
    have hlog : y.natAbs.log2 < 9000 := hlog
    have hpos := hL.pos
    refine ⟨_, rfl, _, _, _, _, _, rfl, .ty _, tyx_sq hS, kit_ty (by decide +kernel), true, rfl, ?_⟩
    show if false = true then _ else _
    rw [if_neg Bool.false_ne_true]
    refine ⟨_, rfl, _, _, rfl, .inr hS, rfl, _, rfl, ?_⟩
    refine iteNS rfl ?_
    refine ⟨_, rfl, _, _, _, _, rfl, rfl, hS, atI_nat (j := 0) rfl, _, rfl, true, rfl, iteF ?_⟩
    refine ⟨_, rfl, _, _, _, _, rfl, rfl, hS, atI_nat (j := 1) rfl, _, rfl, true, rfl, iteF ?_⟩
    refine ⟨_, rfl, _, _, _, _, rfl, rfl, hS, atI_nat (j := 1) rfl, _, _, rfl, rfl, _, rfl, ?_⟩
    rw [decide_eq_false (show ¬ y ≤ 0 by omega)]
    refine iteF ?_
    refine ⟨_, rfl, _, _, _, _, rfl, rfl, hS, atI_nat (j := 0) rfl, _, rfl, _, _, _, _, rfl, rfl, hS, atI_nat (j := 1) rfl, x, y, rfl, by omega, hlog, fun r hr' => ?_⟩
    rw [lowI_self hL]
    have s1 := same_new (o := .tup [.int x, .int y]) hr'
    refine ⟨_, rfl, _, _, PrS.dp (p := (x, y)) ⟨r, rfl, .inl (.inl upd_same)⟩, PrS.dp (p := (x, y)) ⟨p, rfl, SqT.same s1 hS⟩, rfl, rfl, ?_⟩
    rw [SeqAt.eqv_refl _ (by rfl)]
    exact q _ s1
def sp_partsS (K : PySem.W.Frag) : Sp := fun vs H Q _ => ∃ (a b : Addr) (xs ys : List V) (l : List (Int × Int)), vs = [.ref a, .ref b] ∧ H a = some (.lst xs) ∧ H b = some (.lst ys) ∧ All2 (PrS K H) xs l ∧ All2 (PrS K H) ys l ∧ l.length ≤ 100 ∧ (∀ x ∈ l, Low x.1 x.2 ∧ x.2.natAbs.log2 < 9000) ∧ ∀ H', Same H H' → Q (.bl true) H'
theorem ok__law_partsS (T : Env K mg) (su : SupP flM P) : FnOk P w K mg base CX0 4 T.a__law_parts T.fd__law_parts ["_law_found", "_law_due"] (sp_partsS K) := by
  refine T.F__law_parts.ok sc__law_parts (fun vs H Q E h => ?_) (fun cdv A outer s H vs Q E hr h => ?_)
  · obtain ⟨a, b, xs, ys, l, rfl, _⟩ := h
    rfl
  · obtain ⟨a, b, xs, ys, l, rfl, ha, hb, hX, hY, hl, hlow, kk⟩ := h
    refine ⟨_, (pss_cons (ps_if (PW.pt (pw_or (pt_not (pt_val (pe_callB call_isi (by rfl) T.m_isinstance (by decide +kernel) (pa_cons (pv 0) (pa_cons (pe_bltn (v := .ty "list") (u := .type "list") (by rfl) T.m_list (by decide +kernel) rfl) pa_nil))))) (pw_or1 (pt_cmpR op_ne (pe_callB (id := "len") call_len_seq (by rfl) T.m_len (by decide +kernel) (pa_cons (pv 0) pa_nil)) (pe_callB (id := "len") call_len_seq (by rfl) T.m_len (by decide +kernel) (pa_cons (pv 1) pa_nil)) (nomark _)))))
 (pss_one (ps_ret pe_bl))
 pss_nil)
 (pss_cons (ps_for PassesOwn.never rfl (pi_range1 (by rfl) T.m_range (pa_cons (pe_callB (id := "len") call_len_seq (by rfl) T.m_len (by decide +kernel) (pa_cons (pv 1) pa_nil)) pa_nil)) (pg_name (i := 2) sc__law_parts.nd rfl (.inl rfl))
 (pss_one (ps_if (PW.pt (pw_or (pt_not (pt_val (pe_call (ok__law_partS T su) (hr.mono (by decide)) (by rfl) T.g__law_part T.F__law_part.kp T.b__law_part .nil pass0 (pa_cons (pe_ix ix_list (pv 0) (pv 2) (fun _ _ => rfl)) pa_nil)))) (pw_or1 (pt_cmpR (op_neD hr.units) (pe_ix ix_list (pv 0) (pv 2) (fun _ _ => rfl)) (pe_ix ix_list (pv 1) (pv 2) (fun _ _ => rfl)) (nomark _)))))
 (pss_one (ps_ret pe_bl))
 pss_nil)))
 (pss_one (ps_ret pe_bl)))), ?_⟩
    have hxl := hX.length
    have hyl := hY.length
    refine ⟨_, rfl, _, _, _, _, _, rfl, .ty _, .base (.lst ha), kit_ty (by decide +kernel), true, rfl, ?_⟩
    show if false = true then _ else _
    rw [if_neg Bool.false_ne_true]
    refine ⟨_, rfl, a, xs, rfl, .inl (.inl (.inl ha)), _, rfl, b, ys, rfl, .inl (.inl (.inl hb)), rfl, _, rfl, iteNS (by rw [hxl, hyl]) ?_⟩
    refine ⟨_, rfl, _, _, rfl, .inl (.inl (.inl hb)), _, rfl, by omega, by omega, for_range (lo := 0) (n := ((ys.length : Nat) : Int).toNat) (fun i σ H' => ∃ y, σ = [some (.ref a), some (.ref b), y] ∧ Same H H') ⟨_, rfl, Same.refl _⟩ ?_ ?_⟩
    · rintro i σ H' hi ⟨y, rfl, s1⟩
      have hi' : i < l.length := by omega
      obtain ⟨u, eu, hu⟩ := hX.at' (List.getElem?_eq_getElem hi')
      obtain ⟨v, ev, hv⟩ := hY.at' (List.getElem?_eq_getElem hi')
      have lo := hlow _ (List.getElem_mem hi')
      have eu2 : atI xs (0 + (i : Int)) = some u := by rw [Int.zero_add]; exact atI_nat eu
      have ev2 : atI ys (0 + (i : Int)) = some v := by rw [Int.zero_add]; exact atI_nat ev
      refine ⟨_, rfl, _, rfl, a, _, _, _, rfl, rfl, .inl (.inl (s1 _ _ ha)), eu2, u, _, rfl, hu.mono s1, lo.1, lo.2, fun H4 s4 => ⟨true, rfl, iteF ?_⟩⟩
      have s14 := s1.trans s4
      refine ⟨_, rfl, _, rfl, a, _, _, _, rfl, rfl, .inl (.inl (s14 _ _ ha)), eu2, _, rfl, _, rfl, b, _, _, _, rfl, rfl, .inl (.inl (s14 _ _ hb)), ev2, _, _, (hu.mono s14).dp, (hv.mono s14).dp, rfl, rfl, _, rfl, ?_⟩
      rw [SeqAt.eqv_refl _ (by rfl)]
      refine iteF ?_
      exact ⟨_, rfl, s14⟩
    · rintro σ H' ⟨y, rfl, s1⟩
      exact kk H' s1
def rowL (g : Nat → Nat → Rat) (w i : Nat) : List (Int × Int) := (List.range w).map fun k => frq (g i k)
def RowsV (K : PySem.W.Frag) (H : Hp) (R : Addr) (w : Nat) (g : Nat → Nat → Rat) : Prop := ∃ rs : List Addr, H R = some (.lst (rs.map V.ref)) ∧ rs.length = w ∧ ∀ i r, rs[i]? = some r → ∃ xs : List V, H r = some (.lst xs) ∧ All2 (PrS K H) xs (rowL g w i)
theorem RowsV.mono {H H' : Hp} {R : Addr} {w : Nat} {g : Nat → Nat → Rat} (s : Same H H') (h : RowsV K H R w g) : RowsV K H' R w g := by
  obtain ⟨rs, e, l, q⟩ := h
  exact ⟨rs, s _ _ e, l, fun i r hr => let ⟨xs, e1, e2⟩ := q i r hr; ⟨xs, s _ _ e1, All2.mono e2 fun _ _ h => h.mono s⟩⟩
theorem all2_get {α β : Type} {R : α → β → Prop} : ∀ {xs : List α} {ys : List β}, xs.length = ys.length → (∀ (i : Nat) (x : α) (y : β), xs[i]? = some x → ys[i]? = some y → R x y) → All2 R xs ys
  | [], [], _, _ => .nil
  | x :: xs, y :: ys, hl, h => .cons (h 0 x y rfl rfl) (all2_get (by simpa using hl) fun i a b e1 e2 => h (i + 1) a b (by simpa using e1) (by simpa using e2))
  | [], _ :: _, hl, _ => by simp at hl
  | _ :: _, [], hl, _ => by simp at hl
theorem row_all {H : Hp} {w i : Nat} {g : Nat → Nat → Rat} {xs : List V} (hl : xs.length = w) (h : ∀ (k : Nat) (x : V), xs[k]? = some x → PrS K H x (frq (g i k))) : All2 (PrS K H) xs (rowL g w i) := by
  refine all2_get (by unfold rowL; rw [List.length_map, List.length_range]; exact hl) fun k x y h1 h2 => ?_
  unfold rowL at h2
  have kl := (List.getElem?_eq_some_iff.mp h1).1
  rw [List.getElem?_map, List.getElem?_range (by omega)] at h2
  obtain rfl := Option.some.inj h2
  exact h k x h1
theorem RowsS.view {H0 H : Hp} {R : Addr} {rs : List Addr} {w : Nat} {g : Nat → Nat → Rat} (h : RowsS K H0 H R rs w g) (hl : rs.length = w) : RowsV K H R w g :=
  ⟨rs, h.top, hl, fun i r hr => let ⟨xs, e, l, q⟩ := h.row i r hr; ⟨xs, e, row_all l q⟩⟩
theorem RowsI.view {H0 H : Hp} {R : Addr} {rs : List Addr} {w : Nat} {g : Nat → Nat → Rat} (h : RowsI K H0 H R rs w g) (hl : rs.length = w) : RowsV K H R w g :=
  ⟨rs, h.top, hl, fun i r hr => let ⟨xs, e, l, q⟩ := h.row i r hr; ⟨xs, e, row_all l fun k x hk => (q k x hk).s⟩⟩
def sp_ltable (K : PySem.W.Frag) : Sp := fun vs H Q _ => ∃ (a b : Addr) (w : Nat) (g g' : Nat → Nat → Rat), vs = [.ref a, .ref b] ∧ w ≤ 12 ∧ RowsV K H a w g ∧ RowsV K H b w g' ∧ (∀ i k, i < w → k < w → g i k = g' i k ∧ (frq (g i k)).2.natAbs.log2 < 9000) ∧ ∀ H', Same H H' → Q (.bl true) H'
theorem ok__law_table (T : Env K mg) (su : SupP flM P) : FnOk P w K mg base CX0 5 T.a__law_table T.fd__law_table ["_law_found", "_law_due"] (sp_ltable K) := by
  refine T.F__law_table.ok sc__law_table (fun vs H Q E h => ?_) (fun cdv A outer s H vs Q E hr h => ?_)
  · obtain ⟨a, b, w, g, g', rfl, _⟩ := h
    rfl
  · obtain ⟨a, b, w, g, g', rfl, hw, ⟨rs, ha, hl, hrow⟩, ⟨rs', hb, hl', hrow'⟩, hgg, kk⟩ := h
    refine ⟨_, (pss_cons (ps_if (PW.pt (pw_or (pt_not (pt_val (pe_callB call_isi (by rfl) T.m_isinstance (by decide +kernel) (pa_cons (pv 0) (pa_cons (pe_bltn (v := .ty "list") (u := .type "list") (by rfl) T.m_list (by decide +kernel) rfl) pa_nil))))) (pw_or1 (pt_cmpR op_ne (pe_callB (id := "len") call_len_seq (by rfl) T.m_len (by decide +kernel) (pa_cons (pv 0) pa_nil)) (pe_callB (id := "len") call_len_seq (by rfl) T.m_len (by decide +kernel) (pa_cons (pv 1) pa_nil)) (nomark _)))))
 (pss_one (ps_ret pe_bl))
 pss_nil)
 (pss_cons (ps_for PassesOwn.never rfl (pi_range1 (by rfl) T.m_range (pa_cons (pe_callB (id := "len") call_len_seq (by rfl) T.m_len (by decide +kernel) (pa_cons (pv 1) pa_nil)) pa_nil)) (pg_name (i := 2) sc__law_table.nd rfl (.inl rfl))
 (pss_one (ps_if (pt_not (pt_val (pe_call (ok__law_partsS T su) (hr.mono (by decide)) (by rfl) T.g__law_parts T.F__law_parts.kp T.b__law_parts .nil pass0 (pa_cons (pe_ix ix_list (pv 0) (pv 2) (fun _ _ => rfl)) (pa_cons (pe_ix ix_list (pv 1) (pv 2) (fun _ _ => rfl)) pa_nil)))))
 (pss_one (ps_ret pe_bl))
 pss_nil)))
 (pss_one (ps_ret pe_bl)))), ?_⟩
    refine ⟨_, rfl, _, _, _, _, _, rfl, .ty _, .base (.lst ha), kit_ty (by decide +kernel), true, rfl, ?_⟩
    show if false = true then _ else _
    rw [if_neg Bool.false_ne_true]
    refine ⟨_, rfl, a, _, rfl, .inl (.inl (.inl ha)), _, rfl, b, _, rfl, .inl (.inl (.inl hb)), rfl, _, rfl, iteNS (by rw [List.length_map, List.length_map, hl, hl']) ?_⟩
    refine ⟨_, rfl, _, _, rfl, .inl (.inl (.inl hb)), _, rfl, by rw [List.length_map]; omega, by rw [List.length_map]; omega, for_range (lo := 0) (n := (((rs'.map V.ref).length : Nat) : Int).toNat) (fun i σ H' => ∃ y, σ = [some (.ref a), some (.ref b), y] ∧ Same H H') ⟨_, rfl, Same.refl _⟩ ?_ ?_⟩
    · rintro i σ H' hi ⟨y, rfl, s1⟩
      rw [List.length_map] at hi
      have hi' : i < w := by omega
      have e1 : rs[i]? = some rs[i] := List.getElem?_eq_getElem (by omega)
      have e2 : rs'[i]? = some rs'[i] := List.getElem?_eq_getElem (by omega)
      obtain ⟨xs, hx, hX⟩ := hrow i _ e1
      obtain ⟨ys, hy, hY⟩ := hrow' i _ e2
      have eg : rowL g' w i = rowL g w i := by
        unfold rowL
        refine List.map_congr_left fun k hk => ?_
        rw [(hgg i k hi' (List.mem_range.mp hk)).1]
      rw [eg] at hY
      have a1 : atI (rs.map V.ref) (0 + (i : Int)) = some (.ref rs[i]) := by rw [Int.zero_add]; exact atI_nat (by rw [List.getElem?_map, e1]; rfl)
      have a2 : atI (rs'.map V.ref) (0 + (i : Int)) = some (.ref rs'[i]) := by rw [Int.zero_add]; exact atI_nat (by rw [List.getElem?_map, e2]; rfl)
      refine ⟨_, rfl, _, rfl, a, _, _, _, rfl, rfl, .inl (.inl (s1 _ _ ha)), a1, _, rfl, _, rfl, b, _, _, _, rfl, rfl, .inl (.inl (s1 _ _ hb)), a2, _, _, xs, ys, _, rfl, s1 _ _ hx, s1 _ _ hy, All2.mono hX fun _ _ h => h.mono s1, All2.mono hY fun _ _ h => h.mono s1, by unfold rowL; rw [List.length_map, List.length_range]; omega, fun x hx => ?_, fun H4 s4 => ⟨true, rfl, iteF ?_⟩⟩
      · unfold rowL at hx
        obtain ⟨k, hk, rfl⟩ := List.mem_map.mp hx
        exact ⟨frq_low _, (hgg i k hi' (List.mem_range.mp hk)).2⟩
      · exact ⟨_, rfl, s1.trans s4⟩
    · rintro σ H' ⟨y, rfl, s1⟩
      exact kk H' s1

/-! ### is_part, is_length -/
def isPart (x : Int × Int) : Bool := decide (x.2 > 0) && decide (Nat.gcd x.1.natAbs x.2.natAbs = 1)
def isLen (x : Int × Int) : Bool := decide (x.1 > 0) && isPart x
theorem isLen_f2 {t b : Nat} {x : Int × Int} (h : F2 t b x) : isLen x = true := by
  unfold isLen isPart
  rw [decide_eq_true h.top, decide_eq_true h.low.pos, decide_eq_true h.low.one]
  rfl
def sp_ispart (K : PySem.W.Frag) (G : Int × Int → Bool) : Sp := fun vs H Q _ => ∃ (v : V) (x : Int × Int), vs = [v] ∧ PrAt K H v x ∧ Q (.bl (G x)) H
theorem ok_is_part (T : Env K mg) (su : SupP flM P) : FnOk P w K mg base CX0 1 T.a_is_part T.fd_is_part ["one"] (sp_ispart K isPart) := by
  refine T.F_is_part.ok sc_is_part (fun vs H Q E h => ?_) (fun cdv A outer s H vs Q E hr h => ?_)
  · obtain ⟨v, x, rfl, _⟩ := h
    rfl
  · obtain ⟨v, x, rfl, hx, q⟩ := h
    refine ⟨_, (pss_one (ps_ret (pe_and (pe_cmpR op_gt (pe_ix ix_tup (pv 0) pe_int (fun _ _ => rfl)) pe_int (nomark _)) (pe_one (pe_cmpR op_eq (pe_callBfun cr_gcd (by rfl) T.m_gcd (pa_cons (pe_ix ix_tup (pv 0) pe_int (fun _ _ => rfl)) (pa_cons (pe_ix ix_tup (pv 0) pe_int (fun _ _ => rfl)) pa_nil))) pe_int (nomark _)))))), ?_⟩
    obtain ⟨t, rfl, ht⟩ := hx.sq
    refine ⟨_, rfl, t, _, _, _, rfl, rfl, ht, atI_nat (j := 1) rfl, _, _, rfl, rfl, ?_⟩
    refine ⟨_, rfl, ?_⟩
    unfold isPart at q
    by_cases h : x.2 > 0
    · rw [decide_eq_true h] at q ⊢
      refine iteT ?_
      refine ⟨_, rfl, t, _, _, _, rfl, rfl, ht, atI_nat (j := 0) rfl, _, rfl, t, _, _, _, rfl, rfl, ht, atI_nat (j := 1) rfl, _, _, rfl, rfl, ?_⟩
      have e : decide (V.int ((Nat.gcd x.1.natAbs x.2.natAbs : Nat) : Int) = V.int 1) = decide (Nat.gcd x.1.natAbs x.2.natAbs = 1) := by
        rw [decide_eq_decide]
        exact ⟨fun e => by have := V.int.inj e; omega, fun e => by rw [e]; rfl⟩
      show Q (.bl (decide (V.int ((Nat.gcd x.1.natAbs x.2.natAbs : Nat) : Int) = V.int 1))) H
      rw [e]
      exact q
    · rw [decide_eq_false h] at q ⊢
      refine iteF ?_
      exact q
theorem ok_is_length (T : Env K mg) (su : SupP flM P) : FnOk P w K mg base CX0 2 T.a_is_length T.fd_is_length ["one"] (sp_ispart K isLen) := by
  refine T.F_is_length.ok sc_is_length (fun vs H Q E h => ?_) (fun cdv A outer s H vs Q E hr h => ?_)
  · obtain ⟨v, x, rfl, _⟩ := h
    rfl
  · obtain ⟨v, x, rfl, hx, q⟩ := h
    refine ⟨_, (pss_one (ps_ret (pe_and (pe_cmpR op_gt (pe_ix ix_tup (pv 0) pe_int (fun _ _ => rfl)) pe_int (nomark _)) (pe_one (pe_call (ok_is_part T su) (hr.mono (by decide)) (by rfl) T.g_is_part T.F_is_part.kp T.b_is_part .nil pass0 (pa_cons (pv 0) pa_nil)))))), ?_⟩
    obtain ⟨t, rfl, ht⟩ := hx.sq
    refine ⟨_, rfl, t, _, _, _, rfl, rfl, ht, atI_nat (j := 0) rfl, _, _, rfl, rfl, ?_⟩
    refine ⟨_, rfl, ?_⟩
    unfold isLen at q
    by_cases h : x.1 > 0
    · rw [decide_eq_true h] at q ⊢
      refine iteT ?_
      exact ⟨_, rfl, .ref t, x, rfl, hx, q⟩
    · rw [decide_eq_false h] at q ⊢
      refine iteF ?_
      exact q

theorem lc_cb {vs0 : List V} {L : List (List Nat)} {g : TG} {tt : TT} {te : TE} {vs : List Nat} {σ : L2.St} {H1 : Hp} {D : Addr} {Qd : Hp → Prop} (Pv : Nat → Hp → Prop) (h0 : Pv 0 (upd H1 D (.lst [])))
    (hs : ∀ i ix H T, L[i]? = some ix → Pv i H → H T = none → g (.ref T) (wipe σ vs) (upd H T (.tup (Cb.pickV vs0 ix))) fun σ2 H2 => wipe σ2 vs = wipe σ vs ∧ tt σ2 H2 fun b H3 =>
      if b = true then te σ2 H3 fun y H4 => ∃ acc, H4 D = some (.lst acc) ∧ acc.length < sizeLine ∧ Pv (i + 1) (upd H4 D (.lst (acc ++ [y]))) else Pv (i + 1) H3) (hd : ∀ H, Pv L.length H → Qd H) :
    ∃ W : Nat → Nat → Hp → Prop, (∃ m, W 0 m (upd H1 D (.lst []))) ∧ ∀ i m H, W i m H →
      ((Cb.ItC vs0 L).stop i H ∧ Qd H) ∨ ((Cb.ItC vs0 L).go i H ∧ ∃ Nx : Hp → Prop, (∀ H', Nx H' → ∃ m', m' < m ∧ W (i + 1) m' H') ∧ ∀ x H', (Cb.ItC vs0 L).yld i H x H' → g x (wipe σ vs) H' fun σ2 H2 => wipe σ2 vs = wipe σ vs ∧ tt σ2 H2 fun b H3 =>
        if b = true then te σ2 H3 fun y H4 => ∃ acc, H4 D = some (.lst acc) ∧ acc.length < sizeLine ∧ Nx (upd H4 D (.lst (acc ++ [y]))) else Nx H3) := by
  refine ⟨fun i m H => m = L.length - i ∧ i ≤ L.length ∧ Pv i H, ⟨L.length, by simp, Nat.zero_le _, h0⟩, ?_⟩
  rintro i m H ⟨rfl, hi, p⟩
  by_cases hlt : i < L.length
  · refine .inr ⟨hlt, Pv (i + 1), fun H' p' => ⟨L.length - (i + 1), by omega, rfl, hlt, p'⟩, ?_⟩
    rintro x H' ⟨T, ix, e, rfl, hT, rfl⟩
    exact hs i ix H T e p hT
  · have e : i = L.length := by omega
    subst e
    exact .inl ⟨Nat.le_refl _, hd H p⟩
theorem cmb_lt : ∀ (k : Nat) (xs v : List Nat), v ∈ Cb.cmb k xs → ∀ j ∈ v, j ∈ xs
  | 0, xs, v, h, j, hj => by
    have : v = [] := by simpa [Cb.cmb] using h
    rw [this] at hj; cases hj
  | k + 1, [], v, h, j, hj => by cases h
  | k + 1, x :: xs, v, h, j, hj => by
    rcases List.mem_append.mp h with h | h
    · obtain ⟨v', h1, rfl⟩ := List.mem_map.mp h
      rcases List.mem_cons.mp hj with e | e
      · rw [e]; simp
      · exact List.mem_cons_of_mem _ (cmb_lt k xs v' h1 j e)
    · exact List.mem_cons_of_mem _ (cmb_lt (k + 1) xs v h j hj)

/-! ### the rule of four in a table -/
def Kp (g : Nat → Nat → Rat) (a b c d : Nat) : Prop := g a c * g b d = g a b * g c d + g b c * g a d
instance (g : Nat → Nat → Rat) (a b c d : Nat) : Decidable (Kp g a b c d) := by unfold Kp; infer_instance
structure TabG (n : Nat) (g : Nat → Nat → Rat) : Prop where
  self : ∀ i, i < n → g i i = 0
  sym : ∀ i k, i < n → k < n → g i k = g k i
  pos : ∀ i k, i < n → k < n → i ≠ k → 0 < g i k
  bd : ∀ i k, i < n → k < n → Bq 1800 1100 (g i k)
def NoBrk (n : Nat) (g : Nat → Nat → Rat) : Prop := ∀ c d, 2 ≤ c → c < d → d < n → Kp g 0 1 c d
structure First (n : Nat) (g : Nat → Nat → Rat) (c d : Nat) : Prop where
  c2 : 2 ≤ c
  cd : c < d
  dn : d < n
  no : ¬ Kp g 0 1 c d
  be : ∀ c' d', 2 ≤ c' → c' < d' → d' < n → (c' < c ∨ (c' = c ∧ d' < d)) → Kp g 0 1 c' d'
theorem First.not {n : Nat} {g : Nat → Nat → Rat} {c d : Nat} (h : First n g c d) : ¬ NoBrk n g := fun k => h.no (k c d h.c2 h.cd h.dn)
theorem First.uni {n : Nat} {g : Nat → Nat → Rat} {c d c' d' : Nat} (h : First n g c d) (k : First n g c' d') : c = c' ∧ d = d' := by
  by_cases e1 : c' < c ∨ (c' = c ∧ d' < d)
  · exact absurd (h.be c' d' k.c2 k.cd k.dn e1) k.no
  by_cases e2 : c < c' ∨ (c = c' ∧ d < d')
  · exact absurd (k.be c d h.c2 h.cd h.dn e2) h.no
  omega
/-- what the first two posts' lengths tell, holds for all -/
theorem tab_pairs {n : Nat} {g : Nat → Nat → Rat} (hn : 2 ≤ n) (hT : TabG n g) (h : NoBrk n g) : ∃ p r : Nat → Rat, ∀ i k, i < k → k < n → g i k = p i * r k - p k * r i := by
  have s := hT.pos 0 1 (by omega) (by omega) (by decide)
  have s' : g 0 1 ≠ 0 := Rat.ne_of_gt s
  refine ⟨fun i => g 0 i, fun i => if i = 0 then -1 else g 1 i / g 0 1, fun i k ik kn => ?_⟩
  have z0 := hT.self 0 (by omega)
  have z1 := hT.self 1 (by omega)
  show g i k = g 0 i * (if k = 0 then -1 else g 1 k / g 0 1) - g 0 k * (if i = 0 then -1 else g 1 i / g 0 1)
  rw [if_neg (by omega)]
  by_cases e0 : i = 0
  · subst e0
    rw [if_pos rfl, z0]
    grind
  rw [if_neg e0]
  by_cases e1 : i = 1
  · subst e1
    rw [z1]
    grind
  have q : Kp g 0 1 i k := h i k (by omega) ik kn
  unfold Kp at q
  grind
theorem kp_all {n : Nat} {g : Nat → Nat → Rat} (hn : 2 ≤ n) (hT : TabG n g) (h : NoBrk n g) {a b c d : Nat} (ab : a < b) (bc : b < c) (cd : c < d) (dn : d < n) : Kp g a b c d := by
  obtain ⟨p, r, e⟩ := tab_pairs hn hT h
  unfold Kp
  rw [e a c (by omega) (by omega), e b d (by omega) (by omega), e a b ab (by omega), e c d cd dn, e b c bc (by omega), e a d (by omega) dn]
  grind
theorem three_div {A B C D E F : Rat} (hB : B ≠ 0) (hD : D ≠ 0) (hF : F ≠ 0) : A / B = C / D + E / F ↔ A * D * F = (C * F + E * D) * B := by
  constructor
  · intro h
    have e1 : A = (C / D + E / F) * B := by rw [← h]; grind
    rw [e1]
    grind
  · intro h
    have e1 : A / B = (A * D * F) / (B * D * F) := by grind
    rw [e1, h]
    grind
theorem kp_int {g : Nat → Nat → Rat} {a b c d : Nat} : Kp g a b c d ↔ ((frq (g a c)).1 * (frq (g b d)).1) * ((frq (g a b)).2 * (frq (g c d)).2) * ((frq (g b c)).2 * (frq (g a d)).2) =
    ((frq (g a b)).1 * (frq (g c d)).1 * ((frq (g b c)).2 * (frq (g a d)).2) + (frq (g b c)).1 * (frq (g a d)).1 * ((frq (g a b)).2 * (frq (g c d)).2)) * ((frq (g a c)).2 * (frq (g b d)).2) := by
  have nz : ∀ r : Rat, (((frq r).2 : Int) : Rat) ≠ 0 := fun r => by
    have := (frq_low r).pos
    intro e
    have : (frq r).2 = 0 := by exact_mod_cast e
    omega
  have pr : ∀ x y : Rat, x * y = (((frq x).1 * (frq y).1 : Int) : Rat) / (((frq x).2 * (frq y).2 : Int) : Rat) := fun x y => by
    have hx := q_at x
    have hy := q_at y
    have n1 := nz x
    have n2 := nz y
    rw [Rat.intCast_mul, Rat.intCast_mul]
    generalize ((frq x).1 : Rat) = xa at *
    generalize ((frq x).2 : Rat) = xb at *
    generalize ((frq y).1 : Rat) = ya at *
    generalize ((frq y).2 : Rat) = yb at *
    rw [hx, hy]
    grind
  have np : ∀ x y : Rat, (((frq x).2 * (frq y).2 : Int) : Rat) ≠ 0 := fun x y => by
    rw [Rat.intCast_mul]
    have n1 := nz x
    have n2 := nz y
    intro e
    rcases Rat.mul_eq_zero.mp e with e | e
    · exact n1 e
    · exact n2 e
  unfold Kp
  rw [pr (g a c), pr (g a b), pr (g b c), three_div (np _ _) (np _ _) (np _ _)]
  rw [← Rat.intCast_mul, ← Rat.intCast_mul, ← Rat.intCast_mul, ← Rat.intCast_mul, ← Rat.intCast_add, ← Rat.intCast_mul]
  exact Rat.intCast_inj
def lexCk (m : Nat) : Bool := (List.range (Cb.cmb 2 (List.range m)).length).all fun i => (List.range m).all fun a => (List.range m).all fun b => !(decide (a < b)) || !(decide (a < ((Cb.cmb 2 (List.range m)).getD i []).getD 0 0) || (decide (a = ((Cb.cmb 2 (List.range m)).getD i []).getD 0 0) && decide (b < ((Cb.cmb 2 (List.range m)).getD i []).getD 1 0))) || decide ([a, b] ∈ (Cb.cmb 2 (List.range m)).take i)
theorem lexCk_all : ((List.range 11).all lexCk) = true := by decide +kernel
theorem lex_of {m i a b c d : Nat} (h : m ≤ 10) (hi : (Cb.cmb 2 (List.range m))[i]? = some [c, d]) (ab : a < b) (bm : b < m) (l : a < c ∨ (a = c ∧ b < d)) : [a, b] ∈ (Cb.cmb 2 (List.range m)).take i := by
  have h1 := List.all_eq_true.mp lexCk_all m (List.mem_range.mpr (by omega))
  unfold lexCk at h1
  have hl := (List.getElem?_eq_some_iff.mp hi).1
  have h2 := List.all_eq_true.mp (List.all_eq_true.mp (List.all_eq_true.mp h1 i (List.mem_range.mpr hl)) a (List.mem_range.mpr (by omega))) b (List.mem_range.mpr bm)
  have e : (Cb.cmb 2 (List.range m)).getD i [] = [c, d] := by rw [List.getD_eq_getElem?_getD, hi]; rfl
  rw [e] at h2
  have e0 : [c, d].getD 0 0 = c := rfl
  have e1 : [c, d].getD 1 0 = d := rfl
  rw [e0, e1, decide_eq_true ab, Bool.not_true, Bool.false_or, Bool.or_eq_true, Bool.not_eq_true', decide_eq_true_eq, Bool.or_eq_false_iff, Bool.and_eq_false_iff, decide_eq_false_iff_not, decide_eq_false_iff_not, decide_eq_false_iff_not] at h2
  rcases h2 with ⟨x, y⟩ | h2
  · omega
  · exact h2

theorem num_pos {r : Rat} (h : 0 < r) : 0 < (frq r).1 := by
  have h2 : (0 : Rat) < ((frq r).2 : Rat) := Rat.intCast_pos.mpr (q_pos r)
  have e : ((frq r).1 : Rat) / ((frq r).2 : Rat) = r := vq_frq r
  have n := q_ne r
  have e2 : ((frq r).1 : Rat) = r * ((frq r).2 : Rat) := by
    generalize ((frq r).1 : Rat) = a at *
    generalize ((frq r).2 : Rat) = b at *
    subst e
    exact (Rat.div_mul_cancel n).symm
  have h3 : (0 : Rat) < ((frq r).1 : Rat) := by
    rw [e2]
    exact Rat.mul_pos h h2
  exact Rat.intCast_pos.mp h3

section
variable {X : Cx}
def rLenQ (K : PySem.W.Frag) : List V → Hp → VK → Prop := fun xs H Q => ∃ p ys, xs = [V.ref p] ∧ (SqL K H p ys ∨ SqT K H p ys) ∧ Q (.int (ys.length : Int)) H
theorem call_lenQ : CallR X (.builtin "len") (rLenQ X.K) := call_len_seq
end
/-! ### a table's rows -/
def RowsB (K : PySem.W.Frag) (H : Hp) (R : Addr) (n : Nat) (g : Nat → Nat → Rat) : Prop := ∃ rs : List Addr, H R = some (.lst (rs.map V.ref)) ∧ rs.length = n ∧ ∀ i r, rs[i]? = some r → ∃ xs : List V, H r = some (.lst xs) ∧ xs.length = n ∧ ∀ k x, xs[k]? = some x → PrS K H x (frq (g i k)) ∧ (i ≠ k → PrAt K H x (frq (g i k)))
theorem RowsB.mono {H H' : Hp} {R : Addr} {n : Nat} {g : Nat → Nat → Rat} (s : Same H H') (h : RowsB K H R n g) : RowsB K H' R n g := by
  obtain ⟨rs, e, l, q⟩ := h
  exact ⟨rs, s _ _ e, l, fun i r hr => let ⟨xs, e1, l1, q1⟩ := q i r hr; ⟨xs, s _ _ e1, l1, fun k x hx => ⟨(q1 k x hx).1.mono s, fun ne => ((q1 k x hx).2 ne).mono s⟩⟩⟩
theorem RowsB.at {H : Hp} {R : Addr} {n : Nat} {g : Nat → Nat → Rat} (h : RowsB K H R n g) {i k : Nat} (hi : i < n) (hk : k < n) : ∃ (rs : List Addr) (r : Addr) (xs : List V) (x : V), H R = some (.lst (rs.map V.ref)) ∧ atI (rs.map V.ref) (i : Int) = some (.ref r) ∧ H r = some (.lst xs) ∧ xs.length = n ∧ atI xs (k : Int) = some x ∧ PrS K H x (frq (g i k)) ∧ (i ≠ k → PrAt K H x (frq (g i k))) := by
  obtain ⟨rs, e, l, q⟩ := h
  have e1 : rs[i]? = some rs[i] := List.getElem?_eq_getElem (by omega)
  obtain ⟨xs, hx, hl, hX⟩ := q i _ e1
  have ek : xs[k]? = some xs[k] := List.getElem?_eq_getElem (by omega)
  obtain ⟨p1, p2⟩ := hX k _ ek
  exact ⟨rs, rs[i], xs, xs[k], e, atI_nat (by rw [List.getElem?_map, e1]; rfl), hx, hl, atI_nat ek, p1, p2⟩
theorem RowsI.b {H0 H : Hp} {R : Addr} {rs : List Addr} {w : Nat} {g : Nat → Nat → Rat} (h : RowsI K H0 H R rs w g) (hl : rs.length = w) : RowsB K H R w g :=
  ⟨rs, h.top, hl, fun i r hr => let ⟨xs, e, l, q⟩ := h.row i r hr; ⟨xs, e, l, fun k x hk => ⟨(q k x hk).s, fun _ => q k x hk⟩⟩⟩
/-- None where the rule holds, else the least four -/
def BrkV (H : Hp) (n : Nat) (g : Nat → Nat → Rat) (v : V) : Prop := (v = .non ∧ NoBrk n g) ∨ ∃ t c d, v = .ref t ∧ First n g c d ∧ H t = some (.tup [.int 0, .int 1, .int (c : Int), .int (d : Int)])
theorem BrkV.mono {H H' : Hp} {n : Nat} {g : Nat → Nat → Rat} {v : V} (s : Same H H') (h : BrkV H n g v) : BrkV H' n g v := by
  rcases h with h | ⟨t, c, d, e, f, h⟩
  · exact .inl h
  · exact .inr ⟨t, c, d, e, f, s _ _ h⟩
def sp_multiplied (K : PySem.W.Frag) : Sp := fun vs H Q _ => ∃ (u v : V) (a b : Rat), vs = [u, v] ∧ PrS K H u (frq a) ∧ PrS K H v (frq b) ∧ Bq 1800 1100 a ∧ Bq 1800 1100 b ∧ ∀ H' t, Same H H' → H' t = some (.tup [.int ((frq a).1 * (frq b).1), .int ((frq a).2 * (frq b).2)]) → Q (.ref t) H'
theorem ok_multiplied (T : Env K mg) (su : SupP flM P) : FnOk P w K mg base CX0 1 T.a_multiplied T.fd_multiplied ["one", "other"] (sp_multiplied K) := by
  refine T.F_multiplied.ok sc_multiplied (fun vs H Q E h => ?_) (fun cdv A outer s H vs Q E hr h => ?_)
  · obtain ⟨u, v, a, b, rfl, _⟩ := h
    rfl
  · obtain ⟨u, v, a, b, rfl, ⟨ta, rfl, ha⟩, ⟨tb, rfl, hb⟩, ba, bb, k⟩ := h
    refine ⟨_, (pss_one (ps_ret (pe_tup (pa_cons (pe_op op_mulU (pe_ix ix_tup (pv 0) pe_int (fun _ _ => rfl)) (pe_ix ix_tup (pv 1) pe_int (fun _ _ => rfl))) (pa_cons (pe_op op_mulU (pe_ix ix_tup (pv 0) pe_int (fun _ _ => rfl)) (pe_ix ix_tup (pv 1) pe_int (fun _ _ => rfl))) pa_nil))))), ?_⟩
    refine ⟨_, rfl, ta, _, _, _, rfl, rfl, ha, atI_nat (j := 0) rfl, _, rfl, tb, _, _, _, rfl, rfl, hb, atI_nat (j := 0) rfl, _, _, rfl, rfl, mulW ba.top bb.top (by decide) (by decide) (by decide), ?_⟩
    refine ⟨_, rfl, ta, _, _, _, rfl, rfl, ha, atI_nat (j := 1) rfl, _, rfl, tb, _, _, _, rfl, rfl, hb, atI_nat (j := 1) rfl, _, _, rfl, rfl, mulW ba.bot bb.bot (by decide) (by decide) (by decide), ?_⟩
    refine ⟨small200 (by show 2 ≤ 200; decide), fun t ht => ?_⟩
    exact k _ t (same_new ht) upd_same
def sp_keeps (K : PySem.W.Frag) : Sp := fun vs H Q _ => ∃ (R : Addr) (n : Nat) (g : Nat → Nat → Rat) (a b c d : Nat), vs = [.ref R, .int (a : Int), .int (b : Int), .int (c : Int), .int (d : Int)] ∧ RowsB K H R n g ∧ TabG n g ∧ a < n ∧ b < n ∧ c < n ∧ d < n ∧ ∀ H', Same H H' → Q (.bl (decide (Kp g a b c d))) H'
theorem ok_keeps_rule (T : Env K mg) (su : SupP flM P) : FnOk P w K mg base CX0 2 T.a_keeps_rule T.fd_keeps_rule ["table", "a", "b", "c", "d"] (sp_keeps K) := by
  refine T.F_keeps_rule.ok sc_keeps_rule (fun vs H Q E h => ?_) (fun cdv A outer s H vs Q E hr h => ?_)
  · obtain ⟨R, n, g, a, b, c, d, rfl, _⟩ := h
    rfl
  · obtain ⟨R, n, g, a, b, c, d, rfl, hR, hT, an, bn, cn, dn, k⟩ := h
    refine ⟨_, (pss_cons (ps_asg (pe_call (ok_multiplied T su) (hr.mono (by decide)) (by rfl) T.g_multiplied T.F_multiplied.kp T.b_multiplied .nil pass0 (pa_cons (pe_ix ix_list (pe_ix ix_list (pv 0) (pv 1) (fun _ _ => rfl)) (pv 3) (fun _ _ => rfl)) (pa_cons (pe_ix ix_list (pe_ix ix_list (pv 0) (pv 2) (fun _ _ => rfl)) (pv 4) (fun _ _ => rfl)) pa_nil))) (pg_tup rfl (pgs_cons (pg_name (i := 5) sc_keeps_rule.nd rfl (.inl rfl)) (pgs_cons (pg_name (i := 6) sc_keeps_rule.nd rfl (.inl rfl)) pgs_nil))))
 (pss_cons (ps_asg (pe_call (ok_multiplied T su) (hr.mono (by decide)) (by rfl) T.g_multiplied T.F_multiplied.kp T.b_multiplied .nil pass0 (pa_cons (pe_ix ix_list (pe_ix ix_list (pv 0) (pv 1) (fun _ _ => rfl)) (pv 2) (fun _ _ => rfl)) (pa_cons (pe_ix ix_list (pe_ix ix_list (pv 0) (pv 3) (fun _ _ => rfl)) (pv 4) (fun _ _ => rfl)) pa_nil))) (pg_tup rfl (pgs_cons (pg_name (i := 7) sc_keeps_rule.nd rfl (.inl rfl)) (pgs_cons (pg_name (i := 8) sc_keeps_rule.nd rfl (.inl rfl)) pgs_nil))))
 (pss_cons (ps_asg (pe_call (ok_multiplied T su) (hr.mono (by decide)) (by rfl) T.g_multiplied T.F_multiplied.kp T.b_multiplied .nil pass0 (pa_cons (pe_ix ix_list (pe_ix ix_list (pv 0) (pv 2) (fun _ _ => rfl)) (pv 3) (fun _ _ => rfl)) (pa_cons (pe_ix ix_list (pe_ix ix_list (pv 0) (pv 1) (fun _ _ => rfl)) (pv 4) (fun _ _ => rfl)) pa_nil))) (pg_tup rfl (pgs_cons (pg_name (i := 9) sc_keeps_rule.nd rfl (.inl rfl)) (pgs_cons (pg_name (i := 10) sc_keeps_rule.nd rfl (.inl rfl)) pgs_nil))))
 (pss_cons (ps_set (i := 11) sc_keeps_rule.nd rfl (.inl rfl) (pe_op op_add (pe_op op_mulU (pv 7) (pv 10)) (pe_op op_mulU (pv 9) (pv 8))))
 (pss_one (ps_ret (pe_cmpR op_eq (pe_op op_mulU (pe_op op_mulU (pv 5) (pv 8)) (pv 10)) (pe_op op_mulU (pv 11) (pv 6)) (nomark _)))))))), ?_⟩
    obtain ⟨ra, r1, x1, y1, a1, a2, a3, a4, a5, a6, a7⟩ := hR.at an cn
    obtain ⟨rb, r2, x2, y2, b1, b2, b3, b4, b5, b6, b7⟩ := hR.at bn dn
    refine ⟨_, rfl, _, rfl, R, _, _, _, rfl, rfl, .inl (.inl a1), a2, _, rfl, r1, x1, _, y1, rfl, rfl, .inl (.inl a3), a5, _, rfl, _, rfl, R, _, _, _, rfl, rfl, .inl (.inl b1), b2, _, rfl, r2, x2, _, y2, rfl, rfl, .inl (.inl b3), b5, y1, y2, _, _, rfl, a6, b6, hT.bd _ _ an cn, hT.bd _ _ bn dn, fun H1 t1 s1 e1 => ?_⟩
    refine ⟨t1, _, rfl, .inl (.inl e1), rfl, _, _, rfl, _, _, rfl, rfl, ?_⟩
    have hR1 := hR.mono s1
    obtain ⟨rc, r3, x3, y3, c1, c2, c3, c4, c5, c6, c7⟩ := hR1.at an bn
    obtain ⟨rd, r4, x4, y4, d1, d2, d3, d4, d5, d6, d7⟩ := hR1.at cn dn
    refine ⟨_, rfl, _, rfl, R, _, _, _, rfl, rfl, .inl (.inl c1), c2, _, rfl, r3, x3, _, y3, rfl, rfl, .inl (.inl c3), c5, _, rfl, _, rfl, R, _, _, _, rfl, rfl, .inl (.inl d1), d2, _, rfl, r4, x4, _, y4, rfl, rfl, .inl (.inl d3), d5, y3, y4, _, _, rfl, c6, d6, hT.bd _ _ an bn, hT.bd _ _ cn dn, fun H2 t2 s2 e2 => ?_⟩
    refine ⟨t2, _, rfl, .inl (.inl e2), rfl, _, _, rfl, _, _, rfl, rfl, ?_⟩
    have hR2 := hR1.mono s2
    obtain ⟨re, r5, x5, y5, f1, f2, f3, f4, f5, f6, f7⟩ := hR2.at bn cn
    obtain ⟨rf, r6, x6, y6, g1, g2, g3, g4, g5, g6, g7⟩ := hR2.at an dn
    refine ⟨_, rfl, _, rfl, R, _, _, _, rfl, rfl, .inl (.inl f1), f2, _, rfl, r5, x5, _, y5, rfl, rfl, .inl (.inl f3), f5, _, rfl, _, rfl, R, _, _, _, rfl, rfl, .inl (.inl g1), g2, _, rfl, r6, x6, _, y6, rfl, rfl, .inl (.inl g3), g5, y5, y6, _, _, rfl, f6, g6, hT.bd _ _ bn cn, hT.bd _ _ an dn, fun H3 t3 s3 e3 => ?_⟩
    refine ⟨t3, _, rfl, .inl (.inl e3), rfl, _, _, rfl, _, _, rfl, rfl, ?_⟩
    have T1 := lt_mul (n := 3600) (hT.bd _ _ an cn).top (hT.bd _ _ bn dn).top (by decide)
    have B1 := lt_mul (n := 2200) (hT.bd _ _ an cn).bot (hT.bd _ _ bn dn).bot (by decide)
    have T2 := lt_mul (n := 3600) (hT.bd _ _ an bn).top (hT.bd _ _ cn dn).top (by decide)
    have B2 := lt_mul (n := 2200) (hT.bd _ _ an bn).bot (hT.bd _ _ cn dn).bot (by decide)
    have T3 := lt_mul (n := 3600) (hT.bd _ _ bn cn).top (hT.bd _ _ an dn).top (by decide)
    have B3 := lt_mul (n := 2200) (hT.bd _ _ bn cn).bot (hT.bd _ _ an dn).bot (by decide)
    have hk := kp_int (g := g) (a := a) (b := b) (c := c) (d := d)
    generalize (frq (g a c)).1 * (frq (g b d)).1 = t1 at *
    generalize (frq (g a c)).2 * (frq (g b d)).2 = b1 at *
    generalize (frq (g a b)).1 * (frq (g c d)).1 = t2 at *
    generalize (frq (g a b)).2 * (frq (g c d)).2 = b2 at *
    generalize (frq (g b c)).1 * (frq (g a d)).1 = t3 at *
    generalize (frq (g b c)).2 * (frq (g a d)).2 = b3 at *
    have M1 := lt_mul (n := 5800) T2 B3 (by decide)
    have M2 := lt_mul (n := 5800) T3 B2 (by decide)
    have M3 : (t2 * b3 + t3 * b2).natAbs < 2 ^ 5801 := by
      have := Int.natAbs_add_le (t2 * b3) (t3 * b2)
      rw [Nat.pow_succ]
      omega
    have M4 := lt_mul (n := 5800) T1 B2 (by decide)
    refine ⟨_, rfl, _, rfl, _, _, rfl, rfl, mulW T2 B3 (by decide) (by decide) (by decide), _, rfl, _, rfl, _, _, rfl, rfl, mulW T3 B2 (by decide) (by decide) (by decide), _, _, rfl, rfl, ?_⟩
    refine ⟨_, rfl, _, rfl, _, _, rfl, rfl, mulW T1 B2 (by decide) (by decide) (by decide), _, rfl, _, _, rfl, rfl, mulW M4 B3 (by decide) (by decide) (by decide), _, rfl, _, rfl, _, _, rfl, rfl, mulW M3 B1 (by decide) (by decide) (by decide), rfl, ?_⟩
    show Q (.bl (decide (V.int (t1 * b2 * b3) = V.int ((t2 * b3 + t3 * b2) * b1)))) H3
    have e : decide (V.int (t1 * b2 * b3) = V.int ((t2 * b3 + t3 * b2) * b1)) = decide (Kp g a b c d) := by
      rw [decide_eq_decide, hk]
      exact ⟨fun e => V.int.inj e, fun e => by rw [e]⟩
    rw [e]
    exact k H3 ((s1.trans s2).trans s3)
def sp_twin (K : PySem.W.Frag) : Sp := fun vs H Q _ => ∃ (R : Addr) (n : Nat) (g : Nat → Nat → Rat) (i k : Nat), vs = [.ref R, .int (i : Int), .int (k : Int)] ∧ RowsB K H R n g ∧ TabG n g ∧ i < n ∧ k < n ∧ i ≠ k ∧ Q (.bl true) H
theorem ok_is_twin_length (T : Env K mg) (su : SupP flM P) : FnOk P w K mg base CX0 3 T.a_is_twin_length T.fd_is_twin_length ["table", "i", "k"] (sp_twin K) := by
  refine T.F_is_twin_length.ok sc_is_twin_length (fun vs H Q E h => ?_) (fun cdv A outer s H vs Q E hr h => ?_)
  · obtain ⟨R, n, g, i, k, rfl, _⟩ := h
    rfl
  · obtain ⟨R, n, g, i, k, rfl, hR, hT, hi, hk, ik, q⟩ := h
    refine ⟨_, (pss_one (ps_ret (pe_and (pe_cmpR (op_eqD hr.units) (pe_ix ix_list (pe_ix ix_list (pv 0) (pv 1) (fun _ _ => rfl)) (pv 2) (fun _ _ => rfl)) (pe_ix ix_list (pe_ix ix_list (pv 0) (pv 2) (fun _ _ => rfl)) (pv 1) (fun _ _ => rfl)) (nomark _)) (pe_one (pe_call (ok_is_length T su) (hr.mono (by decide)) (by rfl) T.g_is_length T.F_is_length.kp T.b_is_length .nil pass0 (pa_cons (pe_ix ix_list (pe_ix ix_list (pv 0) (pv 1) (fun _ _ => rfl)) (pv 2) (fun _ _ => rfl)) pa_nil)))))), ?_⟩
    obtain ⟨rs, r1, xs, x, h1, h2, h3, h4, h5, h6, h7⟩ := hR.at hi hk
    obtain ⟨rs', r2, ys, y, g1, g2, g3, g4, g5, g6, g7⟩ := hR.at hk hi
    rw [h1] at g1
    have er := L2.HO.lst.inj (Option.some.inj g1)
    rw [← er] at g2
    have p7 := h7 ik
    rw [hT.sym k i hk hi] at g6
    refine ⟨_, rfl, _, rfl, R, _, _, _, rfl, rfl, .inl (.inl h1), h2, _, rfl, r1, xs, _, x, rfl, rfl, .inl (.inl h3), h5, _, rfl, _, rfl, R, _, _, _, rfl, rfl, .inl (.inl h1), g2, _, rfl, r2, ys, _, y, rfl, rfl, .inl (.inl g3), g5, _, _, h6.dp, g6.dp, rfl, rfl, ?_⟩
    refine ⟨_, rfl, ?_⟩
    rw [SeqAt.eqv_refl _ (by rfl)]
    refine iteT ?_
    refine ⟨_, rfl, _, rfl, R, _, _, _, rfl, rfl, .inl (.inl h1), h2, _, rfl, r1, xs, _, x, rfl, rfl, .inl (.inl h3), h5, x, _, rfl, p7, ?_⟩
    have el : isLen (frq (g i k)) = true := by
      have b := (hT.bd i k hi hk)
      have pp := num_pos (hT.pos i k hi hk ik)
      have lo := frq_low (g i k)
      unfold isLen isPart
      rw [decide_eq_true pp, decide_eq_true lo.pos, decide_eq_true lo.one]
      rfl
    rw [el]
    exact q
theorem rep_put {H0 H' : Hp} {D : Addr} {i : Nat} {b : Bool} {y : V} (hD : H0 D = none) (s : Same H0 H') (hz : H' D = some (.lst ((List.replicate i b).map V.bl))) (hi : i ≤ 100) (ey : y = V.bl b) : ∃ acc, H' D = some (.lst acc) ∧ acc.length < sizeLine ∧ Same H0 (upd H' D (.lst (acc ++ [y]))) ∧ (upd H' D (.lst (acc ++ [y]))) D = some (.lst ((List.replicate (i + 1) b).map V.bl)) := by
  subst ey
  refine ⟨_, hz, small200' (by rw [List.length_map, List.length_replicate]; omega), same_put s hD, ?_⟩
  rw [upd_same, List.replicate_succ', List.map_append]
  rfl
theorem any_rep (n : Nat) : (List.replicate n false).any id = false := by
  induction n with
  | zero => rfl
  | succ n ih => rw [List.replicate_succ, List.any_cons, ih]; rfl
theorem all_rep (n : Nat) : (List.replicate n true).all id = true := by
  induction n with
  | zero => rfl
  | succ n ih => rw [List.replicate_succ, List.all_cons, ih]; rfl
def sp_looked (K : PySem.W.Frag) : Sp := fun vs H Q _ => ∃ (R : Addr) (n : Nat) (g : Nat → Nat → Rat), vs = [.ref R] ∧ 3 ≤ n ∧ n ≤ 12 ∧ RowsB K H R n g ∧ TabG n g ∧ ∀ H', Same H H' → Q (.int (n : Int)) H'
theorem ok_looked (T : Env K mg) (su : SupP flM P) : FnOk P w K mg base (L2.CX P w) 4 T.a_looked T.fd_looked ["table"] (sp_looked K) := by
  refine T.F_looked.okX sc_looked (fun vs H Q E h => ?_) (fun cdv A outer s H vs Q E hr h => ?_)
  · obtain ⟨R, n, g, rfl, _⟩ := h
    rfl
  · obtain ⟨R, n, g, rfl, h3, h12, hR, hT, k⟩ := h
    refine ⟨_, (pss_cons (ps_set (i := 1) sc_looked.nd rfl (.inr rfl) (pe_callB (id := "len") call_len_seq (by rfl) T.m_len (by decide +kernel) (pa_cons (pv 0) pa_nil)))
 (pss_cons (ps_if (pt_not (pt_chain op_le op_le (pe_glob (v := .int 3) rfl T.m_LEAST_POSTS ⟨_, rfl⟩) (pv 1) (pe_glob (v := .int 12) rfl T.m_MOST_POSTS ⟨_, rfl⟩)))
 (pss_one (ps_raise rfl (takes_of rfl rfl rfl rfl) (pmk_own PySem.F.excBase_ValueError T.x_BadTable T.c_BadTable T.k_BadTable (raises_own T.bs_BadTable T.ty_BadTable) rfl)))
 pss_nil)
 (pss_cons (ps_if (pt_val (pe_callB (cr_any rfl) (by rfl) T.m_any (by decide +kernel) (pa_cons (pe_lc (own := [("row", 2)]) (by rfl) sc_looked.nd (pi_list (pv 0)) (blkOk_by (own := [("row", 2)]) (N := ["table", "n", "row", "post", "i", "k"]) (sc := defScope s_looked) (by decide +kernel)) (fun _ _ _ _ _ => (pg_name (i := 2) sc_looked.nd rfl (.inl rfl))) (fun _ _ _ _ _ => pts_nil) (fun _ _ _ _ _ => (pe_cmpR op_ne (pe_callB (id := "len") (r := rLenQ K) call_lenQ (by rfl) T.m_len (by decide +kernel) (pa_cons (pv 2) pa_nil)) (pv 1) (nomark _)))) pa_nil)))
 (pss_one (ps_raise rfl (takes_of rfl rfl rfl rfl) (pmk_own PySem.F.excBase_ValueError T.x_BadTable T.c_BadTable T.k_BadTable (raises_own T.bs_BadTable T.ty_BadTable) rfl)))
 pss_nil)
 (pss_cons (ps_if (pt_val (pe_callB (cr_any rfl) (by rfl) T.m_any (by decide +kernel) (pa_cons (pe_lc (own := [("post", 3)]) (by rfl) sc_looked.nd (pi_range1 (by rfl) T.m_range (pa_cons (pv 1) pa_nil)) (blkOk_by (own := [("post", 3)]) (N := ["table", "n", "row", "post", "i", "k"]) (sc := defScope s_looked) (by decide +kernel)) (fun _ _ _ _ _ => (pg_name (i := 3) sc_looked.nd rfl (.inl rfl))) (fun _ _ _ _ _ => pts_nil) (fun _ _ _ _ _ => (pe_cmpR (r := rNeD K) (op_neD (by have h_ := hr.units; exact h_)) (pe_ix (r := rIxL K) ix_list (pe_ix (r := rIxL K) ix_list (pv 0) (pv 3) (fun _ _ => rfl)) (pv 3) (fun _ _ => rfl)) (pe_glob (v := .ref T.o_NOUGHT) rfl T.m_NOUGHT rfl) (nomark _)))) pa_nil)))
 (pss_one (ps_raise rfl (takes_of rfl rfl rfl rfl) (pmk_own PySem.F.excBase_ValueError T.x_BadTable T.c_BadTable T.k_BadTable (raises_own T.bs_BadTable T.ty_BadTable) rfl)))
 pss_nil)
 (pss_cons (ps_if (pt_not (pt_val (pe_callB (cr_all rfl) (by rfl) T.m_all (by decide +kernel) (pa_cons (pe_lc (own := [("i", 4), ("k", 5)]) (by rfl) sc_looked.nd (Cb.pi_cbRg (k := 2) (by decide) (by rfl) (by rfl) T.m_combinations (prg_1 (by rfl) T.m_range (pv 1))) (blkOk_by (own := [("i", 4), ("k", 5)]) (N := ["table", "n", "row", "post", "i", "k"]) (sc := defScope s_looked) (by decide +kernel)) (fun _ _ _ _ _ => (pg_tupK (K := K) (n := 2) rfl rfl (pgs_cons (pg_name (i := 4) sc_looked.nd rfl (.inl rfl)) (pgs_cons (pg_name (i := 5) sc_looked.nd rfl (.inl rfl)) pgs_nil)))) (fun _ _ _ _ _ => pts_nil) (fun _ _ _ _ _ => (pe_call (ok_is_twin_length T su) (hr.mono (by decide)) (by rfl) T.g_is_twin_length T.F_is_twin_length.kp T.b_is_twin_length .nil pass0 (pa_cons (pv 0) (pa_cons (pv 4) (pa_cons (pv 5) pa_nil)))))) pa_nil))))
 (pss_one (ps_raise rfl (takes_of rfl rfl rfl rfl) (pmk_own PySem.F.excBase_ValueError T.x_BadTable T.c_BadTable T.k_BadTable (raises_own T.bs_BadTable T.ty_BadTable) rfl)))
 pss_nil)
 (pss_one (ps_ret (pv 1)))))))), ?_⟩
    obtain ⟨rs, hR1, hR2, hR3⟩ := id hR
    have hS : ∀ {H'}, Same H H' → SqL K H' R (rs.map V.ref) := fun s => .inl (.inl (s _ _ hR1))
    have hl : ((rs.map V.ref).length : Int) = (n : Int) := by rw [List.length_map, hR2]
    refine ⟨_, rfl, R, _, rfl, .inl (hS (Same.refl _)), ?_⟩
    rw [hl]
    refine ⟨_, rfl, _, _, rfl, rfl, _, rfl, ?_⟩
    rw [decide_eq_true (show (3 : Int) ≤ (n : Int) by omega)]
    refine iteT ?_
    refine ⟨_, _, rfl, rfl, _, rfl, ?_⟩
    show if (!decide ((n : Int) ≤ 12)) = true then _ else _
    rw [decide_eq_true (show (n : Int) ≤ 12 by omega)]
    refine iteF ?_
    -- each row
    refine ⟨_, rfl, R, rfl, ⟨_, hS (Same.refl _)⟩, fun D hD => ?_⟩
    refine lc_list (K := K) (a := R) (xs := rs.map V.ref) (fun i H' => Same H H' ∧ H' D = some (.lst ((List.replicate i false).map V.bl))) ⟨same_new hD, upd_same⟩ (fun i H' _ ⟨s1, _⟩ => hS s1) ?_ ?_
    · rintro i x H' hx ⟨s1, hz⟩
      rw [List.getElem?_map] at hx
      obtain ⟨r, er, rfl⟩ : ∃ r, rs[i]? = some r ∧ x = V.ref r := by
        cases e : rs[i]? with
        | none => rw [e] at hx; cases hx
        | some r => rw [e] at hx; exact ⟨r, rfl, (Option.some.inj hx).symm⟩
      obtain ⟨xs, e1, e2, _⟩ := hR3 i r er
      have hin := (List.getElem?_eq_some_iff.mp er).1
      refine ⟨rfl, yes_read ?_⟩
      refine ⟨_, rfl, r, xs, rfl, .inl (.inl (.inl (s1 _ _ e1))), _, rfl, rfl, ?_⟩
      exact rep_put hD s1 hz (by omega) (by rw [e2, decide_eq_true rfl]; rfl)
    rintro H1 ⟨s1, hz⟩
    have hzl : (rs.map V.ref).length = n := by rw [List.length_map, hR2]
    rw [hzl] at hz
    refine ⟨D, List.replicate n false, rfl, .inl (.inl hz), _, rfl, ?_⟩
    rw [any_rep]
    refine iteF ?_
    -- the places on the way down
    refine ⟨_, rfl, n, rfl, by omega, by omega, fun D2 hD2 => ?_⟩
    refine lc_range (lo := 0) (n := ((n : Nat) : Int).toNat) (fun i H' => Same H1 H' ∧ H' D2 = some (.lst ((List.replicate i false).map V.bl))) ⟨same_new hD2, upd_same⟩ ?_ ?_
    · rintro i H' hi ⟨s2, hz2⟩
      have hin : i < n := by omega
      obtain ⟨ra, r1, x1, y1, a1, a2, a3, a4, a5, a6, a7⟩ := (hR.mono (s1.trans s2)).at hin hin
      refine ⟨rfl, yes_read ?_⟩
      rw [Int.zero_add]
      refine ⟨_, rfl, _, rfl, R, _, _, _, rfl, rfl, .inl (.inl a1), a2, _, rfl, r1, x1, _, y1, rfl, rfl, .inl (.inl a3), a5, _, _, a6.dp, PrS.dp (p := (0, 1)) ⟨_, rfl, nought_sq T H'⟩, rfl, rfl, ?_⟩
      refine rep_put hD2 s2 hz2 (by omega) ?_
      rw [hT.self i hin, frq_zero, SeqAt.eqv_refl _ (by rfl)]
      rfl
    rintro H2 ⟨s2, hz2⟩
    refine ⟨D2, List.replicate ((n : Nat) : Int).toNat false, rfl, .inl (.inl hz2), _, rfl, ?_⟩
    rw [any_rep]
    refine iteF ?_
    -- twins
    have hix := Cb.cbl (n := n) (k := 2) (by omega) (by omega)
    obtain ⟨tw1, tw2⟩ := two_of (m := n) (by omega)
    have hcl : (Cb.cmb 2 (List.range n)).length ≤ 66 := by
      have : ((List.range 13).all fun m => decide ((Cb.cmb 2 (List.range m)).length ≤ 66)) = true := by decide +kernel
      exact of_decide_eq_true (List.all_eq_true.mp this n (List.mem_range.mpr (by omega)))
    refine ⟨_, rfl, n, rfl, RgOk.of_le (by omega) (by omega) (by omega) (by omega), Cb.cmb 2 (List.range n), by rw [Int.sub_zero]; exact hix, fun D3 hD3 => ?_⟩
    refine lc_cb (fun i H' => Same H2 H' ∧ H' D3 = some (.lst ((List.replicate i true).map V.bl))) ⟨same_new hD3, upd_same⟩ ?_ ?_
    · rintro i ix H' U hi ⟨s3, hz3⟩ hU
      obtain ⟨a, b, rfl, ab, bn⟩ := tw2 ix (List.mem_of_getElem? hi)
      have hil := (List.getElem?_eq_some_iff.mp hi).1
      rw [pick_two (n := ((n : Nat) : Int)) (by omega) (by omega)]
      have s4 := same_new (o := .tup [.int (a : Int), .int (b : Int)]) hU
      have eU : (upd H' U (.tup [.int (a : Int), .int (b : Int)])) U = some (.tup [.int (a : Int), .int (b : Int)]) := upd_same
      generalize upd H' U (.tup [.int (a : Int), .int (b : Int)]) = H4 at *
      refine ⟨U, _, rfl, .inl (.inl eU), rfl, _, _, rfl, _, _, rfl, rfl, rfl, yes_read ?_⟩
      refine ⟨_, rfl, _, rfl, _, rfl, R, n, g, a, b, rfl, hR.mono (((s1.trans s2).trans s3).trans s4), hT, by omega, bn, by omega, ?_⟩
      exact rep_put hD3 (s3.trans s4) (s4 _ _ hz3) (by omega) rfl
    rintro H3 ⟨s3, hz3⟩
    refine ⟨D3, List.replicate (Cb.cmb 2 (List.range n)).length true, rfl, .inl (.inl hz3), _, rfl, ?_⟩
    rw [all_rep]
    refine iteF ?_
    exact ⟨_, rfl, k H3 ((s1.trans s2).trans s3)⟩
theorem pick_from {lo n : Int} {i j : Nat} (hi : i < (n - lo).toNat) (hj : j < (n - lo).toNat) : Cb.pickV (rgV lo n) [i, j] = [.int (lo + (i : Int)), .int (lo + (j : Int))] := by
  unfold Cb.pickV
  rw [List.map_cons, List.map_cons, List.map_nil]
  have go : ∀ {k : Nat}, k < (n - lo).toNat → (rgV lo n).getD k .non = V.int (lo + (k : Int)) := fun {k} hk => by
    unfold rgV
    rw [List.getD_eq_getElem?_getD, List.getElem?_map, List.getElem?_range (by omega)]
    simp
  rw [go hi, go hj]
def sp_broken (K : PySem.W.Frag) : Sp := fun vs H Q _ => ∃ (R : Addr) (n : Nat) (g : Nat → Nat → Rat), vs = [.ref R] ∧ 3 ≤ n ∧ n ≤ 12 ∧ RowsB K H R n g ∧ TabG n g ∧ ∀ H' v, Same H H' → BrkV H' n g v → Q v H'
theorem ok_broken (T : Env K mg) (su : SupP flM P) : FnOk P w K mg base (L2.CX P w) 5 T.a_broken T.fd_broken ["table"] (sp_broken K) := by
  refine T.F_broken.okX sc_broken (fun vs H Q E h => ?_) (fun cdv A outer s H vs Q E hr h => ?_)
  · obtain ⟨R, n, g, rfl, _⟩ := h
    rfl
  · obtain ⟨R, n, g, rfl, h3, h12, hR, hT, k⟩ := h
    refine ⟨_, (pss_cons (ps_set (i := 1) sc_broken.nd rfl (.inl rfl) (pe_callS (ok_looked T su) (hr.mono (by decide)) (by rfl) T.g_looked T.F_looked.kp T.b_looked (fun σ => passAt (takes_of rfl rfl rfl rfl) σ) (pa_cons (pv 0) pa_nil)))
 (pss_cons (ps_for (passes_of rfl) rfl (Cb.pi_cbRg (k := 2) (by decide) (by rfl) (by rfl) T.m_combinations (prg_2 (by rfl) T.m_range pe_int (pv 1))) (pg_tup rfl (pgs_cons (pg_name (i := 2) sc_broken.nd rfl (.inl rfl)) (pgs_cons (pg_name (i := 3) sc_broken.nd rfl (.inl rfl)) pgs_nil)))
 (pss_one (ps_if (pt_not (pt_val (pe_call (ok_keeps_rule T su) (hr.mono (by decide)) (by rfl) T.g_keeps_rule T.F_keeps_rule.kp T.b_keeps_rule .nil pass0 (pa_cons (pv 0) (pa_cons pe_int (pa_cons pe_int (pa_cons (pv 2) (pa_cons (pv 3) pa_nil))))))))
 (pss_one (ps_ret (pe_tup (pa_cons pe_int (pa_cons pe_int (pa_cons (pv 2) (pa_cons (pv 3) pa_nil)))))))
 pss_nil)))
 (pss_one (ps_ret pe_non)))), ?_⟩
    refine ⟨_, rfl, R, n, g, rfl, h3, h12, hR, hT, fun H1 s1 => ?_⟩
    have hix := Cb.cbl (n := n - 2) (k := 2) (by omega) (by omega)
    have e2 : (n - 2 : Nat) = ((n : Int) - 2).toNat := by omega
    obtain ⟨tw1, tw2⟩ := two_of (m := n - 2) (by omega)
    refine ⟨_, rfl, _, _, rfl, rfl, RgOk.of_le (by omega) (by omega) (by omega) (by omega), Cb.cmb 2 (List.range (n - 2)), by rw [← e2]; exact hix, ?_⟩
    refine for_cbR (fun i σ H' => ∃ y z, σ = [some (.ref R), some (.int (n : Int)), y, z] ∧ Same H H' ∧ ∀ a b : Nat, [a, b] ∈ (Cb.cmb 2 (List.range (n - 2))).take i → Kp g 0 1 (a + 2) (b + 2)) ⟨_, _, rfl, s1, fun a b h => by rw [List.take_zero] at h; cases h⟩ ?_ ?_
    · rintro i ix T2 σ H4 hi ⟨y, z, rfl, s4, hcov⟩ hT2
      obtain ⟨a, b, rfl, ab, bn⟩ := tw2 ix (List.mem_of_getElem? hi)
      rw [pick_from (lo := 2) (n := (n : Int)) (by omega) (by omega)]
      have s5 := same_new (o := .tup [.int (2 + (a : Int)), .int (2 + (b : Int))]) hT2
      have eT : (upd H4 T2 (.tup [.int (2 + (a : Int)), .int (2 + (b : Int))])) T2 = some (.tup [.int (2 + (a : Int)), .int (2 + (b : Int))]) := upd_same
      generalize upd H4 T2 (.tup [.int (2 + (a : Int)), .int (2 + (b : Int))]) = H5 at *
      refine ⟨T2, _, rfl, .inl (.inl eT), rfl, _, _, rfl, _, _, rfl, rfl, ?_⟩
      have ea : (2 : Int) + (a : Int) = ((a + 2 : Nat) : Int) := by omega
      have eb : (2 : Int) + (b : Int) = ((b + 2 : Nat) : Int) := by omega
      rw [ea, eb]
      refine ⟨_, rfl, _, rfl, _, rfl, R, n, g, 0, 1, a + 2, b + 2, rfl, hR.mono (s4.trans s5), hT, by omega, by omega, by omega, by omega, fun H6 s6 => ⟨_, rfl, ?_⟩⟩
      have s46 := (s4.trans s5).trans s6
      by_cases hk : Kp g 0 1 (a + 2) (b + 2)
      · rw [decide_eq_true hk]
        refine iteF ?_
        refine ⟨_, _, rfl, s46, fun a' b' hm => ?_⟩
        rw [take_more hi, List.mem_append, List.mem_singleton] at hm
        rcases hm with hm | hm
        · exact hcov a' b' hm
        · cases hm
          exact hk
      · rw [decide_eq_false hk]
        refine iteT ?_
        refine ⟨_, rfl, _, rfl, small200 (by show 4 ≤ 200; decide), fun t ht => ?_⟩
        refine k _ (.ref t) (s46.trans (same_new ht)) (.inr ⟨t, a + 2, b + 2, rfl, ⟨by omega, by omega, by omega, hk, fun c' d' c2 cd dn lx => ?_⟩, upd_same⟩)
        have := hcov (c' - 2) (d' - 2) (lex_of (m := n - 2) (by omega) hi (by omega) (by omega) (by omega))
        rw [show c' - 2 + 2 = c' by omega, show d' - 2 + 2 = d' by omega] at this
        exact this
    · rintro σ H4 ⟨y, z, rfl, s4, hcov⟩
      rw [List.take_length] at hcov
      refine k H4 .non s4 (.inl ⟨rfl, fun c d c2 cd dn => ?_⟩)
      have := hcov (c - 2) (d - 2) (tw1 _ _ (by omega) (by omega))
      rw [show c - 2 + 2 = c by omega, show d - 2 + 2 = d by omega] at this
      exact this

def sp_law (K : PySem.W.Frag) : Sp := fun vs H Q _ => ∃ (a : Addr) (ns : List Int), vs = [.ref a] ∧ SqL K H a (ns.map V.int) ∧ ns.length ≤ 63 ∧ ∀ H', Q (.bl true) H'
theorem cut_ok (rs : List Int) (k : Nat) : cutV (rs.map V.int) (some (k : Int)) none = (rs.drop k).map V.int := by rw [cut_drop, List.map_drop]
theorem rowOk_drop {rs : List Int} (h : rowOk rs) (k : Nat) : rowOk (rs.drop k) := fun v hv => h v (List.mem_of_mem_drop hv)
theorem pair_at {H : Hp} {xs : List V} {l : List (Int × Int)} {k : Nat} (h : PrL K H xs l) (hk : k < l.length) : ∃ (t : Addr) (p : Int × Int), p ∈ l ∧ atI xs (k : Int) = some (.ref t) ∧ SqT K H t [.int p.1, .int p.2] := by
  obtain ⟨x, ex, t, rfl, ht⟩ := h.at' (List.getElem?_eq_getElem hk)
  exact ⟨t, l[k], List.getElem_mem hk, atI_nat ex, .inl (.inl ht)⟩
/-- what law holds behind the drawing -/
structure Drawn (K : PySem.W.Frag) (H : Hp) (n : Int) (c t : Addr) (cut : List (Int × Int)) : Prop where
  three : 3 ≤ n
  most : n ≤ 12
  isC : IsCut n cut
  srt : cut.Pairwise le2
  len : (cut.length : Int) = n - 3
  ex : ∃ xs, H c = some (.lst xs) ∧ PrL K H xs cut
  ty : ∃ ys, H t = some (.lst ys) ∧ PrL K H ys (tiesS n cut)
theorem Drawn.mono {H H' : Hp} {n : Int} {c t : Addr} {cut : List (Int × Int)} (s : Same H H') (h : Drawn K H n c t cut) : Drawn K H' n c t cut := by
  obtain ⟨xs, e1, e2⟩ := h.ex
  obtain ⟨ys, e3, e4⟩ := h.ty
  exact ⟨h.three, h.most, h.isC, h.srt, h.len, ⟨xs, s _ _ e1, e2.mono s⟩, ⟨ys, s _ _ e3, e4.mono s⟩⟩
theorem Drawn.few {H : Hp} {n : Int} {c t : Addr} {cut : List (Int × Int)} (h : Drawn K H n c t cut) : cut.length ≤ 9 := by have := h.len; have := h.most; omega
theorem isCut_perm {n : Int} {l m : List (Int × Int)} (h : IsCut n l) (p : m.Perm l) : IsCut n m := by
  obtain ⟨T, hT, hR⟩ := h.ex
  exact ⟨h.three, p.nodup_iff.mpr h.nd, T, hT, fun a b => (p.mem_iff).trans (hR a b)⟩

section
variable {X : Cx}
def rListQ (K : PySem.W.Frag) : List V → Hp → VK → Prop := fun xs H Q => ∃ p ys, xs = [.ref p] ∧ (SqL K H p ys ∨ SqT K H p ys) ∧ ∀ l, H l = none → Q (.ref l) (upd H l (.lst ys))
theorem call_listQ : CallR X (.type "list") (rListQ X.K) := call_list_of
end
/-! ### a drawn table -/
theorem lenG_tab {n : Int} {cut : List (Int × Int)} {f : Int × Int → Int × Int} {v : Int → V2} (h : LawW n cut f v) : TabG n.toNat (lenG v) := by
  refine ⟨fun i _ => lenG_self v i, fun i k _ _ => lenG_comm v i k, fun i k hi hk ik => ?_, fun i k hi hk => ?_⟩
  · unfold lenG
    exact h.pos _ _ (by omega) (by omega) (by omega)
  · unfold lenG
    exact (h.bd (by omega) (by omega) (by omega) (by omega)).more (by decide) (by decide)
theorem lenG_bd {n : Int} {cut : List (Int × Int)} {f : Int × Int → Int × Int} {v : Int → V2} (h : LawW n cut f v) (i k : Nat) (hi : i < n.toNat) (hk : k < n.toNat) : Bq 1762 1002 (lenG v i k) := by
  unfold lenG
  exact h.bd (by omega) (by omega) (by omega) (by omega)
theorem lenG_lt (v : Int → V2) {i k : Nat} (h : i < k) : lenG v i k = Wd v i k := by
  unfold lenG
  rw [Int.min_eq_left (by omega), Int.max_eq_right (by omega)]
theorem lenG_no (n : Nat) (v : Int → V2) : NoBrk n (lenG v) := fun c d c2 cd dn => by
  unfold Kp
  rw [lenG_lt v (show 0 < c by omega), lenG_lt v (show 1 < d by omega), lenG_lt v (show 0 < 1 by decide), lenG_lt v cd, lenG_lt v (show 1 < c by omega), lenG_lt v (show 0 < d by omega)]
  unfold Wd det
  grind
theorem tab_put {n : Nat} {g : Nat → Nat → Rat} {t b i k : Nat} {s : Rat} (hT : TabG n g) (hB : ∀ i k, i < n → k < n → Bq t b (g i k)) (hi : i < n) (hk : k < n) (ik : i ≠ k) (s0 : 0 < s) (hs : Bq 10 7 s) (l1 : b ≤ t) (l2 : t + 10 ≤ 1800) (l3 : b + 7 ≤ 1100) (t10 : 3 ≤ t - b) :
    TabG n (setG (setG g i k (g i k + s)) k i (g i k + s)) ∧ ∀ p q, p < n → q < n → Bq (t + 9) (b + 7) (setG (setG g i k (g i k + s)) k i (g i k + s) p q) := by
  have bb : Bq (t + 9) (b + 7) (g i k + s) := (Bq.add (m := t + 7) (hB i k hi hk) hs (by omega) (by omega)).more (by omega) (by omega)
  have B : ∀ p q, p < n → q < n → Bq (t + 9) (b + 7) (setG (setG g i k (g i k + s)) k i (g i k + s) p q) := fun p q hp hq => by
    unfold setG
    split
    · exact bb
    · split
      · exact bb
      · exact (hB p q hp hq).more (by omega) (by omega)
  refine ⟨⟨fun p hp => ?_, fun p q hp hq => ?_, fun p q hp hq pq => ?_, fun p q hp hq => (B p q hp hq).more (by omega) (by omega)⟩, B⟩
  · unfold setG
    rw [if_neg (by omega), if_neg (by omega)]
    exact hT.self p hp
  · have e := hT.sym p q hp hq
    unfold setG
    by_cases c1 : p = k ∧ q = i
    · rw [if_pos c1, if_neg (by omega), if_pos (by omega)]
    · rw [if_neg c1]
      by_cases c2 : p = i ∧ q = k
      · rw [if_pos c2, if_pos (by omega)]
      · rw [if_neg c2, if_neg (by omega), if_neg (by omega)]
        exact e
  · have e := hT.pos p q hp hq pq
    have e2 := hT.pos i k hi hk ik
    have e3 : 0 < g i k + s := by grind
    unfold setG
    split
    · exact e3
    · split
      · exact e3
      · exact e
def sp_ltwo (K : PySem.W.Frag) : Sp := fun vs H Q _ => ∃ n a b : Int, vs = [.int n, .int a, .int b, .int 0] ∧ 3 ≤ n ∧ n ≤ 12 ∧ ∀ H' t x y, Same H H' → H' t = some (.tup [.int x, .int y]) → 0 ≤ x → x < n → 0 ≤ y → y < n → x ≠ y → Q (.ref t) H'
theorem RowsI.back {H00 H0 H : Hp} {R : Addr} {rs : List Addr} {w : Nat} {g : Nat → Nat → Rat} (s : Same H00 H0) (h : RowsI K H0 H R rs w g) : RowsI K H00 H R rs w g := by
  have no : ∀ {r}, H0 r = none → H00 r = none := fun {r} e => by
    cases c : H00 r with
    | none => rfl
    | some o => rw [s _ _ c] at e; cases e
  exact ⟨s.trans h.s, h.top, h.nd, h.nR, fun r hr => no (h.new r hr), no h.R0, h.row⟩
def sp_drawn (K : PySem.W.Frag) : Sp := fun vs H Q _ => ∃ (n : Int) (r : Addr) (rs : List Int) (wy : Int), vs = [.int n, .ref r, .int wy] ∧ 3 ≤ n ∧ n ≤ 12 ∧ SqL K H r (rs.map V.int) ∧ rowOk rs ∧ 41 ≤ rs.length ∧ 0 ≤ wy ∧ wy ≤ 2 ∧
  ∀ H' R rs1 g, RowsI K H H' R rs1 n.toNat g → rs1.length = n.toNat → TabG n.toNat g → (∀ i k, i < n.toNat → k < n.toNat → Bq 1780 1016 (g i k)) → (wy = 0 → NoBrk n.toNat g) → Q (.ref R) H'
def sp_lkeeps (K : PySem.W.Frag) : Sp := fun vs H Q _ => ∃ (R : Addr) (n : Nat) (g : Nat → Nat → Rat) (a b c d : Nat), vs = [.ref R, .int (a : Int), .int (b : Int), .int (c : Int), .int (d : Int)] ∧ RowsB K H R n g ∧ TabG n g ∧ a < b ∧ b < c ∧ c < d ∧ d < n ∧ ∀ H', Same H H' → Q (.bl (decide (Kp g a b c d))) H'
/-- the pairs of posts behind 0 and 1 that are gone through ahead of (C, D) -/
def cvr (n : Nat) (g : Nat → Nat → Rat) (C D : Nat) : Prop := ∀ c d, 2 ≤ c → c < d → d < n → (c < C ∨ (c = C ∧ d < D)) → Kp g 0 1 c d
def covs (n : Nat) (g : Nat → Nat → Rat) (a b C D : Nat) : Prop := (a = 0 ∧ b = 1 → cvr n g C D) ∧ (¬ (a = 0 ∧ b = 1) → NoBrk n g)
def sp_lbroken (K : PySem.W.Frag) : Sp := fun vs H Q _ => ∃ (R : Addr) (n : Nat) (g : Nat → Nat → Rat), vs = [.ref R] ∧ 3 ≤ n ∧ n ≤ 12 ∧ RowsB K H R n g ∧ TabG n g ∧ ∀ H' v, Same H H' → BrkV H' n g v → Q v H'
theorem fifth_f2 : F2 10 7 (1, 5) := ⟨by decide, ⟨by decide, by decide⟩, by decide, by decide⟩
theorem TabG.bits {n : Nat} {g : Nat → Nat → Rat} (h : TabG n g) {i k : Nat} (hi : i < n) (hk : k < n) : (frq (g i k)).2.natAbs.log2 < 9000 := log_small (by decide) (h.bd i k hi hk).bot (by decide)
theorem four_tup {H : Hp} {t : Addr} {c d : Nat} (h : H t = some (.tup [.int 0, .int 1, .int (c : Int), .int (d : Int)])) : TupAt H (.ref t) [0, 1, (c : Int), (d : Int)] := ⟨t, rfl, h⟩
theorem four_dp {H : Hp} {t : Addr} {c d : Nat} (h : H t = some (.tup [.int 0, .int 1, .int (c : Int), .int (d : Int)])) : Dp K H (.ref t) (.tuple [.int 0, .int 1, .int (c : Int), .int (d : Int)]) :=
  .tup (.inl (.inl h)) (.cons (.int _) (.cons (.int _) (.cons (.int _) (.cons (.int _) .nil))))

theorem ok_BadPairs___init__ (T : Env K mg) (su : SupP flM P) : FnOk P w K mg base CX0 1 T.a_BadPairs___init__ T.fd_BadPairs___init__ ["self", "two"] (sp_sup T.C_BadPairs "two") :=
  fn_sup su T.sup_BadPairs rfl (NdefX.nscope_by (by decide +kernel)) (by decide) (by decide) T.na_BadPairs_two T.m_super (by decide +kernel) (fun env => by rfl) rfl
def sp_binS (K : PySem.W.Frag) (F : Rat → Rat → Rat) : Sp := fun vs H Q _ => ∃ (x y : V) (a b : Rat), vs = [x, y] ∧ PrS K H x (frq a) ∧ PrS K H y (frq b) ∧ Bq 5000 4490 a ∧ Bq 5000 4490 b ∧
  ∀ H' v, Same H H' → PrAt K H' v (frq (F a b)) → Q v H'
theorem ok__law_mulS (T : Env K mg) (su : SupP flM P) : FnOk P w K mg base CX0 2 T.a__law_mul T.fd__law_mul ["_law_one", "_law_other"] (sp_binS K (· * ·)) := by
  refine T.F__law_mul.ok sc__law_mul (fun vs H Q E h => ?_) (fun cdv A outer s H vs Q E hr h => ?_)
  · obtain ⟨x, y, p, q, rfl, _⟩ := h
    rfl
  · obtain ⟨x, y, p, q, rfl, ⟨a, rfl, ha⟩, ⟨b, rfl, hb⟩, fp, fq, k⟩ := h
    refine ⟨_, (pss_one (ps_ret (pe_call (ok__law_low T su) (hr.mono (by decide)) (by rfl) T.g__law_low T.F__law_low.kp T.b__law_low .nil pass0 (pa_cons (pe_op op_mulU (pe_ix ix_tup (pv 0) pe_int (fun _ _ => rfl)) (pe_ix ix_tup (pv 1) pe_int (fun _ _ => rfl))) (pa_cons (pe_op op_mulU (pe_ix ix_tup (pv 0) pe_int (fun _ _ => rfl)) (pe_ix ix_tup (pv 1) pe_int (fun _ _ => rfl))) pa_nil))))), ?_⟩
    refine ⟨_, rfl, a, _, _, _, rfl, rfl, ha, atI_nat (j := 0) rfl, _, rfl, b, _, _, _, rfl, rfl, hb, atI_nat (j := 0) rfl, _, _, rfl, rfl, mulW fp.top fq.top (by decide) (by decide) (by decide), ?_⟩
    refine ⟨_, rfl, a, _, _, _, rfl, rfl, ha, atI_nat (j := 1) rfl, _, rfl, b, _, _, _, rfl, rfl, hb, atI_nat (j := 1) rfl, _, _, rfl, rfl, mulW fp.bot fq.bot (by decide) (by decide) (by decide), ?_⟩
    rw [← mulV_q] at k
    exact ⟨_, _, rfl, pos_mul p q, log_small (by decide) (lt_mul (n := 8999) fp.bot fq.bot (by decide)) (by decide), bin_out k⟩

def sp_spreadG (K : PySem.W.Frag) : Sp := fun vs H Q _ => ∃ (ta tb : Addr) (u0 u1 w0 w1 : V) (a0 a1 b0 b1 : Rat), vs = [.ref ta, .ref tb] ∧ H ta = some (.tup [u0, u1]) ∧ H tb = some (.tup [w0, w1]) ∧ PrS K H u0 (frq a0) ∧ PrS K H u1 (frq a1) ∧ PrS K H w0 (frq b0) ∧ PrS K H w1 (frq b1) ∧
  Bq 200 200 a0 ∧ Bq 200 200 a1 ∧ Bq 200 200 b0 ∧ Bq 200 200 b1 ∧ ∀ H' x, Same H H' → PrAt K H' x (frq (a0 * b1 - b0 * a1)) → Q x H'
theorem ok__law_spreadG (T : Env K mg) (su : SupP flM P) : FnOk P w K mg base CX0 3 T.a__law_spread T.fd__law_spread ["_law_one", "_law_other"] (sp_spreadG K) := by
  refine T.F__law_spread.ok sc__law_spread (fun vs H Q E h => ?_) (fun cdv A outer s H vs Q E hr h => ?_)
  · obtain ⟨ta, tb, u0, u1, w0, w1, a0, a1, b0, b1, rfl, _⟩ := h
    rfl
  · obtain ⟨ta, tb, u0, u1, w0, w1, a0, a1, b0, b1, rfl, ha, hb, p0, p1, q0, q1, c0, c1, d0, d1, k⟩ := h
    refine ⟨_, (pss_cons (ps_set (i := 2) sc__law_spread.nd rfl (.inl rfl) (pe_call (ok__law_mulS T su) (hr.mono (by decide)) (by rfl) T.g__law_mul T.F__law_mul.kp T.b__law_mul .nil pass0 (pa_cons (pe_ix ix_tup (pv 1) pe_int (fun _ _ => rfl)) (pa_cons (pe_ix ix_tup (pv 0) pe_int (fun _ _ => rfl)) pa_nil))))
 (pss_one (ps_ret (pe_call (ok__law_addQ T su) (hr.mono (by decide)) (by rfl) T.g__law_add T.F__law_add.kp T.b__law_add .nil pass0 (pa_cons (pe_call (ok__law_mulS T su) (hr.mono (by decide)) (by rfl) T.g__law_mul T.F__law_mul.kp T.b__law_mul .nil pass0 (pa_cons (pe_ix ix_tup (pv 0) pe_int (fun _ _ => rfl)) (pa_cons (pe_ix ix_tup (pv 1) pe_int (fun _ _ => rfl)) pa_nil))) (pa_cons (pe_tup (pa_cons (pe_un un_neg (pe_ix ix_tup (pv 2) pe_int (fun _ _ => rfl))) (pa_cons (pe_ix ix_tup (pv 2) pe_int (fun _ _ => rfl)) pa_nil))) pa_nil)))))), ?_⟩
    refine ⟨_, rfl, tb, _, _, _, rfl, rfl, .inl (.inl hb), atI_nat (j := 0) rfl, _, rfl, ta, _, _, _, rfl, rfl, .inl (.inl ha), atI_nat (j := 1) rfl, w0, u1, _, _, rfl, q0, p1, d0.more (by decide) (by decide), c1.more (by decide) (by decide), fun H1 v1 s1 hv1 => ?_⟩
    refine ⟨_, rfl, ta, _, _, _, rfl, rfl, .inl (.inl (s1 _ _ ha)), atI_nat (j := 0) rfl, _, rfl, tb, _, _, _, rfl, rfl, .inl (.inl (s1 _ _ hb)), atI_nat (j := 1) rfl, u0, w1, _, _, rfl, p0.mono s1, q1.mono s1, c0.more (by decide) (by decide), d1.more (by decide) (by decide), fun H2 v2 s2 hv2 => ?_⟩
    obtain ⟨t1, rfl, h1⟩ := (hv1.mono s2).sq
    refine ⟨_, rfl, t1, _, _, _, rfl, rfl, h1, atI_nat (j := 0) rfl, _, rfl, _, rfl, t1, _, _, _, rfl, rfl, h1, atI_nat (j := 1) rfl, small200 (by show 2 ≤ 200; decide), fun t3 ht3 => ?_⟩
    have s3 := same_new (o := .tup [.int (-(frq (b0 * a1)).1), .int (frq (b0 * a1)).2]) ht3
    refine ⟨v2, .ref t3, _, -(b0 * a1), rfl, hv2.mono s3, ⟨t3, rfl, ?_⟩, (c0.mul d1).more (by decide) (by decide), ((d0.mul c1).neg).more (by decide) (by decide), trivial, fun H4 v4 s4 hv4 => ?_⟩
    · rw [frq_neg]
      exact upd_same
    · refine k H4 v4 (((s1.trans s2).trans s3).trans s4) ?_
      rw [show a0 * b1 - b0 * a1 = a0 * b1 + -(b0 * a1) by grind]
      exact hv4
/-! ### the program's times, less, spread: fractions of any sign -/
theorem ok_timesS (T : Env K mg) (su : SupP flM P) : FnOk P w K mg base CX0 2 T.a_times T.fd_times ["one", "other"] (sp_binS K (· * ·)) := by
  refine T.F_times.ok sc_times (fun vs H Q E h => ?_) (fun cdv A outer s H vs Q E hr h => ?_)
  · obtain ⟨x, y, p, q, rfl, _⟩ := h
    rfl
  · obtain ⟨x, y, p, q, rfl, ⟨a, rfl, ha⟩, ⟨b, rfl, hb⟩, fp, fq, k⟩ := h
    refine ⟨_, (pss_one (ps_ret (pe_call (ok_lowest T su) (hr.mono (by decide)) (by rfl) T.g_lowest T.F_lowest.kp T.b_lowest .nil passL (pa_cons (pe_op op_mulU (pe_ix ix_tup (pv 0) pe_int (fun _ _ => rfl)) (pe_ix ix_tup (pv 1) pe_int (fun _ _ => rfl))) (pa_cons (pe_op op_mulU (pe_ix ix_tup (pv 0) pe_int (fun _ _ => rfl)) (pe_ix ix_tup (pv 1) pe_int (fun _ _ => rfl))) pa_nil))))), ?_⟩
    refine ⟨_, rfl, a, _, _, _, rfl, rfl, ha, atI_nat (j := 0) rfl, _, rfl, b, _, _, _, rfl, rfl, hb, atI_nat (j := 0) rfl, _, _, rfl, rfl, mulW fp.top fq.top (by decide) (by decide) (by decide), ?_⟩
    refine ⟨_, rfl, a, _, _, _, rfl, rfl, ha, atI_nat (j := 1) rfl, _, rfl, b, _, _, _, rfl, rfl, hb, atI_nat (j := 1) rfl, _, _, rfl, rfl, mulW fp.bot fq.bot (by decide) (by decide) (by decide), ?_⟩
    rw [← mulV_q] at k
    exact ⟨_, _, rfl, log_small (by decide) (lt_mul (n := 8999) fp.bot fq.bot (by decide)) (by decide), fun z => absurd z (pos_mul p q), fun _ => bin_out k⟩
theorem less_q (a b : Rat) : lowI ((frq a).1 * (frq b).2 - (frq b).1 * (frq a).2) ((frq a).2 * (frq b).2) = frq (a - b) := by
  have h := addV_q a (-b)
  unfold addV at h
  rw [frq_neg] at h
  rw [show a - b = a + -b by grind, ← h]
  show _ = lowI ((frq a).1 * (frq b).2 + (-(frq b).1) * (frq a).2) ((frq a).2 * (frq b).2)
  rw [Int.neg_mul, Int.sub_eq_add_neg]
theorem ok_lessQ (T : Env K mg) (su : SupP flM P) : FnOk P w K mg base CX0 2 T.a_less T.fd_less ["one", "other"] (sp_binS K (· - ·)) := by
  refine T.F_less.ok sc_less (fun vs H Q E h => ?_) (fun cdv A outer s H vs Q E hr h => ?_)
  · obtain ⟨x, y, p, q, rfl, _⟩ := h
    rfl
  · obtain ⟨x, y, p, q, rfl, ⟨a, rfl, ha⟩, ⟨b, rfl, hb⟩, fp, fq, k⟩ := h
    refine ⟨_, (pss_one (ps_ret (pe_call (ok_lowest T su) (hr.mono (by decide)) (by rfl) T.g_lowest T.F_lowest.kp T.b_lowest .nil passL (pa_cons (pe_op op_sub (pe_op op_mulU (pe_ix ix_tup (pv 0) pe_int (fun _ _ => rfl)) (pe_ix ix_tup (pv 1) pe_int (fun _ _ => rfl))) (pe_op op_mulU (pe_ix ix_tup (pv 1) pe_int (fun _ _ => rfl)) (pe_ix ix_tup (pv 0) pe_int (fun _ _ => rfl)))) (pa_cons (pe_op op_mulU (pe_ix ix_tup (pv 0) pe_int (fun _ _ => rfl)) (pe_ix ix_tup (pv 1) pe_int (fun _ _ => rfl))) pa_nil))))), ?_⟩
    refine ⟨_, rfl, a, _, _, _, rfl, rfl, ha, atI_nat (j := 0) rfl, _, rfl, b, _, _, _, rfl, rfl, hb, atI_nat (j := 1) rfl, _, _, rfl, rfl, mulW fp.top fq.bot (by decide) (by decide) (by decide), ?_⟩
    refine ⟨_, rfl, b, _, _, _, rfl, rfl, hb, atI_nat (j := 0) rfl, _, rfl, a, _, _, _, rfl, rfl, ha, atI_nat (j := 1) rfl, _, _, rfl, rfl, mulW fq.top fp.bot (by decide) (by decide) (by decide), _, _, rfl, rfl, ?_⟩
    refine ⟨_, rfl, a, _, _, _, rfl, rfl, ha, atI_nat (j := 1) rfl, _, rfl, b, _, _, _, rfl, rfl, hb, atI_nat (j := 1) rfl, _, _, rfl, rfl, mulW fp.bot fq.bot (by decide) (by decide) (by decide), ?_⟩
    have k : ∀ H' v, Same H H' → PrAt K H' v (frq (p - q)) → Q v H' := k
    rw [← less_q] at k
    exact ⟨_, _, rfl, log_small (by decide) (lt_mul (n := 8999) fp.bot fq.bot (by decide)) (by decide), fun z => absurd z (pos_mul p q), fun _ => bin_out k⟩
theorem ok_spreadG (T : Env K mg) (su : SupP flM P) : FnOk P w K mg base CX0 3 T.a_spread T.fd_spread ["one", "other"] (sp_spreadG K) := by
  refine T.F_spread.ok sc_spread (fun vs H Q E h => ?_) (fun cdv A outer s H vs Q E hr h => ?_)
  · obtain ⟨ta, tb, u0, u1, w0, w1, a0, a1, b0, b1, rfl, _⟩ := h
    rfl
  · obtain ⟨ta, tb, u0, u1, w0, w1, a0, a1, b0, b1, rfl, ha, hb, p0, p1, q0, q1, c0, c1, d0, d1, k⟩ := h
    refine ⟨_, (pss_one (ps_ret (pe_call (ok_lessQ T su) (hr.mono (by decide)) (by rfl) T.g_less T.F_less.kp T.b_less .nil pass0 (pa_cons (pe_call (ok_timesS T su) (hr.mono (by decide)) (by rfl) T.g_times T.F_times.kp T.b_times .nil pass0 (pa_cons (pe_ix ix_tup (pv 0) pe_int (fun _ _ => rfl)) (pa_cons (pe_ix ix_tup (pv 1) pe_int (fun _ _ => rfl)) pa_nil))) (pa_cons (pe_call (ok_timesS T su) (hr.mono (by decide)) (by rfl) T.g_times T.F_times.kp T.b_times .nil pass0 (pa_cons (pe_ix ix_tup (pv 1) pe_int (fun _ _ => rfl)) (pa_cons (pe_ix ix_tup (pv 0) pe_int (fun _ _ => rfl)) pa_nil))) pa_nil))))), ?_⟩
    refine ⟨_, rfl, ta, _, _, _, rfl, rfl, .inl (.inl ha), atI_nat (j := 0) rfl, _, rfl, tb, _, _, _, rfl, rfl, .inl (.inl hb), atI_nat (j := 1) rfl, u0, w1, _, _, rfl, p0, q1, c0.more (by decide) (by decide), d1.more (by decide) (by decide), fun H1 v1 s1 hv1 => ?_⟩
    refine ⟨_, rfl, tb, _, _, _, rfl, rfl, .inl (.inl (s1 _ _ hb)), atI_nat (j := 0) rfl, _, rfl, ta, _, _, _, rfl, rfl, .inl (.inl (s1 _ _ ha)), atI_nat (j := 1) rfl, w0, u1, _, _, rfl, q0.mono s1, p1.mono s1, d0.more (by decide) (by decide), c1.more (by decide) (by decide), fun H2 v2 s2 hv2 => ?_⟩
    refine ⟨v1, v2, _, _, rfl, (hv1.mono s2).s, hv2.s, (c0.mul d1).more (by decide) (by decide), (d0.mul c1).more (by decide) (by decide), fun H3 v3 s3 hv3 => ?_⟩
    exact k H3 v3 ((s1.trans s2).trans s3) hv3

/-! ### pairs of fractions -/
abbrev RR : Type := Rat × Rat
def Tw (K : PySem.W.Frag) (H : Hp) (x : V) (z : RR) : Prop := ∃ (t : Addr) (u v : V), x = .ref t ∧ H t = some (.tup [u, v]) ∧ PrAt K H u (frq z.1) ∧ PrAt K H v (frq z.2)
theorem Tw.tups {H H' : Hp} {x : V} {z : RR} (s : TupS H H') (h : Tw K H x z) : Tw K H' x z := by
  obtain ⟨t, u, v, e, e1, e2, e3⟩ := h
  exact ⟨t, u, v, e, s _ _ e1, e2.tups s, e3.tups s⟩
theorem Tw.mono {H H' : Hp} {x : V} {z : RR} (s : Same H H') (h : Tw K H x z) : Tw K H' x z := h.tups (TupS.of s)
def PrsG (K : PySem.W.Frag) (H : Hp) (L : Addr) (ps : List RR) : Prop := ∃ xs : List V, H L = some (.lst xs) ∧ All2 (Tw K H) xs ps
theorem PrsG.mono {H H' : Hp} {L : Addr} {ps : List RR} (s : Same H H') (h : PrsG K H L ps) : PrsG K H' L ps := by
  obtain ⟨xs, e, q⟩ := h
  exact ⟨xs, s _ _ e, All2.mono q fun _ _ h => h.mono s⟩
def BdP (ps : List RR) : Prop := ∀ z ∈ ps, Bq 200 200 z.1 ∧ Bq 200 200 z.2
def pp (ps : List RR) (i : Nat) : RR := ps.getD i (0, 0)
def Wp (ps : List RR) (i k : Nat) : Rat := (pp ps i).1 * (pp ps k).2 - (pp ps k).1 * (pp ps i).2
def gP (ps : List RR) (i k : Nat) : Rat := if i < k then Wp ps i k else if k < i then Wp ps k i else 0
theorem pp_at {ps : List RR} {i : Nat} (h : i < ps.length) : ps[i]? = some (pp ps i) := by
  unfold pp
  rw [List.getD_eq_getElem?_getD, List.getElem?_eq_getElem h]
  rfl
theorem BdP.at {ps : List RR} (h : BdP ps) {i : Nat} (hi : i < ps.length) : Bq 200 200 (pp ps i).1 ∧ Bq 200 200 (pp ps i).2 := h _ (List.mem_of_getElem? (pp_at hi))
structure BadAt (ps : List RR) (c d : Nat) : Prop where
  cd : c < d
  dn : d < ps.length
  no : ¬ 0 < Wp ps c d
  be : ∀ c' d', c' < d' → d' < ps.length → (c' < c ∨ (c' = c ∧ d' < d)) → 0 < Wp ps c' d'
def AllP (ps : List RR) : Prop := ∀ c d, c < d → d < ps.length → 0 < Wp ps c d
theorem BadAt.not {ps : List RR} {c d : Nat} (h : BadAt ps c d) : ¬ AllP ps := fun k => h.no (k c d h.cd h.dn)
theorem BadAt.uni {ps : List RR} {c d c' d' : Nat} (h : BadAt ps c d) (k : BadAt ps c' d') : c = c' ∧ d = d' := by
  by_cases e1 : c' < c ∨ (c' = c ∧ d' < d)
  · exact absurd (h.be c' d' k.cd k.dn e1) k.no
  by_cases e2 : c < c' ∨ (c = c' ∧ d < d')
  · exact absurd (k.be c d h.cd h.dn e2) h.no
  omega
def BadV (H : Hp) (ps : List RR) (v : V) : Prop := (v = .non ∧ AllP ps) ∨ ∃ t c d, v = .ref t ∧ BadAt ps c d ∧ H t = some (.tup [.int (c : Int), .int (d : Int)])
theorem BadV.mono {H H' : Hp} {ps : List RR} {v : V} (s : Same H H') (h : BadV H ps v) : BadV H' ps v := by
  rcases h with h | ⟨t, c, d, e, f, h⟩
  · exact .inl h
  · exact .inr ⟨t, c, d, e, f, s _ _ h⟩
theorem num_pos_iff (r : Rat) : (frq r).1 > 0 ↔ 0 < r := by
  constructor
  · intro h
    have h0 : 0 ≤ r := Rat.num_nonneg.mp (Int.le_of_lt h)
    have hn : r ≠ 0 := fun e => by rw [e, frq_zero] at h; exact absurd h (by decide)
    grind
  · exact fun h => num_pos h
theorem isLen_q (r : Rat) : isLen (frq r) = decide (0 < r) := by
  unfold isLen isPart
  rw [decide_eq_true (show (frq r).2 > 0 from (frq_low r).pos), decide_eq_true (frq_low r).one, Bool.and_true, Bool.and_true, decide_eq_decide]
  exact num_pos_iff r
theorem Wp_bd {ps : List RR} (h : BdP ps) {i k : Nat} (hi : i < ps.length) (hk : k < ps.length) : Bq 801 800 (Wp ps i k) := by
  unfold Wp
  obtain ⟨a1, a2⟩ := h.at hi
  obtain ⟨b1, b2⟩ := h.at hk
  rw [show (pp ps i).1 * (pp ps k).2 - (pp ps k).1 * (pp ps i).2 = (pp ps i).1 * (pp ps k).2 + -((pp ps k).1 * (pp ps i).2) by grind]
  exact Bq.add (m := 800) (a1.mul b2) (b1.mul a2).neg (by decide) (by decide)
theorem gP_tab {ps : List RR} (h : BdP ps) (ha : AllP ps) : TabG ps.length (gP ps) := by
  refine ⟨fun i _ => ?_, fun i k hi hk => ?_, fun i k hi hk ik => ?_, fun i k hi hk => ?_⟩
  · unfold gP
    rw [if_neg (Nat.lt_irrefl _), if_neg (Nat.lt_irrefl _)]
  · unfold gP
    rcases Nat.lt_trichotomy i k with e | e | e
    · rw [if_pos e, if_neg (by omega), if_pos e]
    · subst e
      rfl
    · rw [if_neg (by omega), if_pos e, if_pos e]
  · unfold gP
    rcases Nat.lt_or_gt_of_ne ik with e | e
    · rw [if_pos e]
      exact ha i k e hk
    · rw [if_neg (by omega), if_pos e]
      exact ha k i e hi
  · unfold gP
    split
    · exact (Wp_bd h hi hk).more (by decide) (by decide)
    · split
      · exact (Wp_bd h hk hi).more (by decide) (by decide)
      · exact Bq.zero.more (by decide) (by decide)
theorem gP_lt {ps : List RR} {i k : Nat} (h : i < k) : gP ps i k = Wp ps i k := by unfold gP; rw [if_pos h]
theorem gP_no (ps : List RR) (n : Nat) : NoBrk n (gP ps) := fun c d c2 cd dn => by
  unfold Kp
  rw [gP_lt (show 0 < c by omega), gP_lt (show 1 < d by omega), gP_lt (show 0 < 1 by decide), gP_lt cd, gP_lt (show 1 < c by omega), gP_lt (show 0 < d by omega)]
  unfold Wp
  grind
def lexC2 (m : Nat) : Bool := (List.range (Cb.cmb 2 (List.range m)).length).all fun i => (List.range m).all fun a => (List.range m).all fun b => !(decide (a < b)) || !(decide (a < ((Cb.cmb 2 (List.range m)).getD i []).getD 0 0) || (decide (a = ((Cb.cmb 2 (List.range m)).getD i []).getD 0 0) && decide (b < ((Cb.cmb 2 (List.range m)).getD i []).getD 1 0))) || decide ([a, b] ∈ (Cb.cmb 2 (List.range m)).take i)
theorem lexC2_all : ((List.range 13).all lexC2) = true := by decide +kernel
theorem lex_of2 {m i a b c d : Nat} (h : m ≤ 12) (hi : (Cb.cmb 2 (List.range m))[i]? = some [c, d]) (ab : a < b) (bm : b < m) (l : a < c ∨ (a = c ∧ b < d)) : [a, b] ∈ (Cb.cmb 2 (List.range m)).take i := by
  have h1 := List.all_eq_true.mp lexC2_all m (List.mem_range.mpr (by omega))
  unfold lexC2 at h1
  have hl := (List.getElem?_eq_some_iff.mp hi).1
  have h2 := List.all_eq_true.mp (List.all_eq_true.mp (List.all_eq_true.mp h1 i (List.mem_range.mpr hl)) a (List.mem_range.mpr (by omega))) b (List.mem_range.mpr bm)
  have e : (Cb.cmb 2 (List.range m)).getD i [] = [c, d] := by rw [List.getD_eq_getElem?_getD, hi]; rfl
  rw [e] at h2
  have e0 : [c, d].getD 0 0 = c := rfl
  have e1 : [c, d].getD 1 0 = d := rfl
  rw [e0, e1, decide_eq_true ab, Bool.not_true, Bool.false_or, Bool.or_eq_true, Bool.not_eq_true', decide_eq_true_eq, Bool.or_eq_false_iff, Bool.and_eq_false_iff, decide_eq_false_iff_not, decide_eq_false_iff_not, decide_eq_false_iff_not] at h2
  rcases h2 with ⟨x, y⟩ | h2
  · omega
  · exact h2
/-! ### a table made place by place; o: the nought that stands in a place not yet made -/
structure RowsO (K : PySem.W.Frag) (o : V) (H0 H : Hp) (R : Addr) (rs : List Addr) (n : Nat) (g : Nat → Nat → Rat) (Dn : Nat → Nat → Prop) : Prop where
  s : Same H0 H
  top : H R = some (.lst (rs.map V.ref))
  nd : rs.Nodup
  nR : R ∉ rs
  new : ∀ r ∈ rs, H0 r = none
  R0 : H0 R = none
  row : ∀ i r, rs[i]? = some r → ∃ xs : List V, H r = some (.lst xs) ∧ xs.length = n ∧ ∀ k x, xs[k]? = some x → (Dn i k ∧ PrAt K H x (frq (g i k))) ∨ (¬ Dn i k ∧ x = o)
theorem RowsO.mono {o : V} {H0 H H' : Hp} {R : Addr} {rs : List Addr} {n : Nat} {g : Nat → Nat → Rat} {Dn : Nat → Nat → Prop} (h : RowsO K o H0 H R rs n g Dn) (s : Same H H') : RowsO K o H0 H' R rs n g Dn :=
  ⟨h.s.trans s, s _ _ h.top, h.nd, h.nR, h.new, h.R0, fun i r hr => let ⟨xs, e, l, q⟩ := h.row i r hr; ⟨xs, s _ _ e, l, fun k x hx => (q k x hx).imp (fun z => ⟨z.1, z.2.mono s⟩) id⟩⟩
theorem RowsO.set {o : V} {H0 H : Hp} {R : Addr} {rs : List Addr} {n : Nat} {g : Nat → Nat → Rat} {Dn : Nat → Nat → Prop} (h : RowsO K o H0 H R rs n g Dn) {i k : Nat} {r : Addr} {xs : List V} {x : V} (hr : rs[i]? = some r) (hx : H r = some (.lst xs)) (hv : PrAt K H x (frq (g i k))) :
    RowsO K o H0 (upd H r (.lst (xs.set k x))) R rs n g (fun a b => Dn a b ∨ (a = i ∧ b = k)) := by
  have ts : TupS H (upd H r (.lst (xs.set k x))) := TupS.put hx
  have hrm : r ∈ rs := List.mem_of_getElem? hr
  refine ⟨same_put h.s (h.new r hrm), ?_, h.nd, h.nR, h.new, h.R0, fun j r2 hr2 => ?_⟩
  · rw [upd_ne (fun (e : R = r) => h.nR (e ▸ hrm))]
    exact h.top
  · obtain ⟨zs, e, l, q⟩ := h.row j r2 hr2
    by_cases ej : j = i
    · subst ej
      rw [hr] at hr2
      cases hr2
      rw [hx] at e
      cases e
      refine ⟨_, upd_same, by rw [List.length_set]; exact l, fun c u hu => ?_⟩
      by_cases ec : c = k
      · subst ec
        have hcl := (List.getElem?_eq_some_iff.mp hu).1
        rw [List.length_set] at hcl
        rw [List.getElem?_set_self hcl] at hu
        cases hu
        exact .inl ⟨.inr ⟨rfl, rfl⟩, hv.tups ts⟩
      · rw [List.getElem?_set_ne (by omega)] at hu
        rcases q c u hu with ⟨d, hp⟩ | ⟨d, hp⟩
        · exact .inl ⟨.inl d, hp.tups ts⟩
        · exact .inr ⟨fun z => z.elim d fun z => ec z.2, hp⟩
    · have ne : r2 ≠ r := fun e2 => by
        subst e2
        exact ej (nodup_at h.nd hr2 hr)
      refine ⟨zs, by rw [upd_ne ne]; exact e, l, fun c u hu => ?_⟩
      rcases q c u hu with ⟨d, hp⟩ | ⟨d, hp⟩
      · exact .inl ⟨.inl d, hp.tups ts⟩
      · exact .inr ⟨fun z => z.elim d fun z => ej z.1, hp⟩
theorem RowsO.more {o : V} {H0 H : Hp} {R r : Addr} {rs : List Addr} {n : Nat} {g : Nat → Nat → Rat} (h : RowsO K o H0 H R rs n g (fun _ _ => False)) (hn : H0 r = none) (hr : H r = some (.lst (List.replicate n o))) (h1 : r ∉ rs) (h2 : r ≠ R) :
    RowsO K o H0 (upd H R (.lst (rs.map V.ref ++ [.ref r]))) R (rs ++ [r]) n g (fun _ _ => False) := by
  refine ⟨same_put h.s h.R0, by rw [upd_same, List.map_append]; rfl, ?_, fun hm => ?_, fun x hx => ?_, h.R0, fun i r2 hr2 => ?_⟩
  · rw [List.nodup_append]
    exact ⟨h.nd, by simp, fun a ha b hb => by rw [List.mem_singleton.mp hb]; exact fun e => h1 (e ▸ ha)⟩
  · rcases List.mem_append.mp hm with hm | hm
    · exact h.nR hm
    · exact h2 (List.mem_singleton.mp hm).symm
  · rcases List.mem_append.mp hx with hx | hx
    · exact h.new x hx
    · rw [List.mem_singleton.mp hx]; exact hn
  · by_cases hlt : i < rs.length
    · rw [List.getElem?_append_left hlt] at hr2
      obtain ⟨xs, e, l, q⟩ := h.row i r2 hr2
      refine ⟨xs, by rw [upd_ne (fun e2 : r2 = R => h.nR (by rw [← e2]; exact List.mem_of_getElem? hr2))]; exact e, l, fun k x hx => ?_⟩
      rcases q k x hx with ⟨d, _⟩ | z
      · exact d.elim
      · exact .inr z
    · rw [List.getElem?_append_right (by omega)] at hr2
      have hil := (List.getElem?_eq_some_iff.mp hr2).1
      simp only [List.length_cons, List.length_nil] at hil
      have e0 : i - rs.length = 0 := by omega
      rw [e0] at hr2
      cases hr2
      refine ⟨_, by rw [upd_ne h2]; exact hr, List.length_replicate, fun k x hx => .inr ⟨id, ?_⟩⟩
      have := List.mem_of_getElem? hx
      exact List.eq_of_mem_replicate this
theorem RowsO.iff {o : V} {H0 H : Hp} {R : Addr} {rs : List Addr} {n : Nat} {g : Nat → Nat → Rat} {Dn Dn' : Nat → Nat → Prop} (h : RowsO K o H0 H R rs n g Dn) (e : ∀ a b, Dn a b ↔ Dn' a b) : RowsO K o H0 H R rs n g Dn' := by
  have : Dn = Dn' := funext fun a => funext fun b => propext (e a b)
  rw [← this]
  exact h
theorem RowsO.at {o : V} {H0 H : Hp} {R : Addr} {rs : List Addr} {n : Nat} {g : Nat → Nat → Rat} {Dn : Nat → Nat → Prop} (h : RowsO K o H0 H R rs n g Dn) {i : Nat} (hi : i < rs.length) : ∃ r xs, rs[i]? = some r ∧ atI (rs.map V.ref) (i : Int) = some (.ref r) ∧ H r = some (.lst xs) ∧ xs.length = n := by
  have e1 : rs[i]? = some rs[i] := List.getElem?_eq_getElem hi
  obtain ⟨xs, e, l, _⟩ := h.row i _ e1
  exact ⟨_, xs, e1, atI_nat (by rw [List.getElem?_map, e1]; rfl), e, l⟩
def sp_ofpairs (K : PySem.W.Frag) (C : Addr) : Sp := fun vs H Q E => ∃ (L : Addr) (ps : List RR), vs = [.ref L] ∧ 3 ≤ ps.length ∧ ps.length ≤ 12 ∧ PrsG K H L ps ∧ BdP ps ∧ (AllP ps → ∀ H' R, Same H H' → RowsB K H' R ps.length (gP ps) → Q (.ref R) H') ∧
  (∀ c d, BadAt ps c d → ∀ H' t e, Same H H' → H' t = some (.tup [.int (c : Int), .int (d : Int)]) → H' e = some (.xd [("two", .ref t)]) → E (.ref C) (some e) H')
theorem ok_of_pairs (T : Env K mg) (su : SupP flM P) : FnOk P w K mg base (L2.CX P w) 4 T.a_of_pairs T.fd_of_pairs ["rows"] (sp_ofpairs K T.C_BadPairs) := by
  refine T.F_of_pairs.okX sc_of_pairs (fun vs H Q E h => ?_) (fun cdv A outer s H vs Q E hr h => ?_)
  · obtain ⟨L, ps, rfl, _⟩ := h
    rfl
  · obtain ⟨L, ps, rfl, h3, h12, hP, hB, k, kE⟩ := h
    refine ⟨_, (pss_cons (ps_set (i := 1) sc_of_pairs.nd rfl (.inr rfl) (pe_callB (id := "len") call_len_seq (by rfl) T.m_len (by decide +kernel) (pa_cons (pv 0) pa_nil)))
 (pss_cons (ps_setLc (i := 2) (own := [("_", 6)]) (by rfl) sc_of_pairs.nd rfl rfl (sw_true rfl rfl rfl (by decide +kernel)) (pi_range1 (by rfl) T.m_range (pa_cons (pv 1) pa_nil)) (blkOk_by (own := [("_", 6)]) (N := ["rows", "n", "made", "i", "k", "length", "_"]) (sc := defScope s_of_pairs) (by decide +kernel)) (fun _ _ _ _ _ => (pg_name (i := 6) sc_of_pairs.nd rfl (.inl rfl))) (fun _ _ _ _ _ => pts_nil) (fun _ _ _ _ _ => (pe_op op_rep (pe_lst (pa_cons (pe_glob (v := .ref T.o_NOUGHT) rfl T.m_NOUGHT rfl) pa_nil)) (pv 1))))
 (pss_cons (ps_for (passes_of rfl) rfl (Cb.pi_cbRg (k := 2) (by decide) (by rfl) (by rfl) T.m_combinations (prg_1 (by rfl) T.m_range (pv 1))) (pg_tup rfl (pgs_cons (pg_name (i := 3) sc_of_pairs.nd rfl (.inl rfl)) (pgs_cons (pg_name (i := 4) sc_of_pairs.nd rfl (.inl rfl)) pgs_nil)))
 (pss_cons (ps_set (i := 5) sc_of_pairs.nd rfl (.inl rfl) (pe_call (ok_spreadG T su) (hr.mono (by decide)) (by rfl) T.g_spread T.F_spread.kp T.b_spread .nil pass0 (pa_cons (pe_ix (r := rIxL K) ix_list (pv 0) (pv 3) (fun _ _ => rfl)) (pa_cons (pe_ix (r := rIxL K) ix_list (pv 0) (pv 4) (fun _ _ => rfl)) pa_nil))))
 (pss_cons (ps_if (pt_not (pt_val (pe_call (ok_is_length T su) (hr.mono (by decide)) (by rfl) T.g_is_length T.F_is_length.kp T.b_is_length .nil pass0 (pa_cons (pv 5) pa_nil))))
 (pss_one (ps_raise rfl (takes_of rfl rfl rfl rfl) (pmk_oex T.sup_BadPairs.T T.sup_BadPairs.iC T.sup_BadPairs.tI (ok_BadPairs___init__ T su) (hr.mono (by decide)) T.b_BadPairs___init__ .nil pass0 (by rfl) T.c_BadPairs (pa_cons (pe_tup (pa_cons (pv 3) (pa_cons (pv 4) pa_nil))) pa_nil))))
 pss_nil)
 (pss_one (ps_asg2 (pv 5) (pg_sub (pe_ix (r := rIxL K) ix_list (pv 2) (pv 3) (fun _ _ => rfl)) (pv 4) set_list) (pg_sub (pe_ix (r := rIxL K) ix_list (pv 2) (pv 4) (fun _ _ => rfl)) (pv 3) set_list))))))
 (pss_one (ps_ret (pv 2)))))), ?_⟩
    obtain ⟨xs, eL, hX⟩ := hP
    have lX := hX.length
    refine ⟨_, rfl, L, xs, rfl, .inl (.inl (.inl eL)), ?_⟩
    rw [lX]
    refine ⟨_, rfl, _, rfl, by omega, by omega, fun R hR => ?_⟩
    refine lc_range (lo := 0) (n := ps.length) (fun i H' => ∃ rs, RowsO K (.ref T.o_NOUGHT) H H' R rs ps.length (gP ps) (fun _ _ => False) ∧ rs.length = i) ⟨[], ⟨same_new hR, upd_same, List.nodup_nil, (fun h => nomatch h), (fun _ h => nomatch h), hR, fun i r h => nomatch h⟩, rfl⟩ ?_ ?_
    · rintro i H' hi ⟨rs, hO, hl⟩
      refine ⟨rfl, yes_read ?_⟩
      refine ⟨small200 (by show 1 ≤ 200; decide), fun l0 n0 => ?_⟩
      have u0 := same_new (o := .lst [.ref T.o_NOUGHT]) n0
      have g0 : (upd H' l0 (.lst [.ref T.o_NOUGHT])) l0 = some (.lst [.ref T.o_NOUGHT]) := upd_same
      generalize upd H' l0 (.lst [.ref T.o_NOUGHT]) = H2 at *
      refine ⟨_, rfl, l0, _, [.ref T.o_NOUGHT], rfl, rfl, g0, by omega, by omega, small200 (by show 1 * _ ≤ 200; rw [Int.toNat_natCast]; omega), fun r nr => ?_⟩
      have er : (List.replicate (ps.length : Int).toNat [V.ref T.o_NOUGHT]).flatten = List.replicate ps.length (V.ref T.o_NOUGHT) := by
        rw [Int.toNat_natCast]
        generalize ps.length = m
        induction m with
        | zero => rfl
        | succ m ih => rw [List.replicate_succ, List.replicate_succ, List.flatten_cons, ih]; rfl
      rw [er]
      have u1 := same_new (o := .lst (List.replicate ps.length (V.ref T.o_NOUGHT))) nr
      have g1 : (upd H2 r (.lst (List.replicate ps.length (V.ref T.o_NOUGHT)))) r = some (.lst (List.replicate ps.length (V.ref T.o_NOUGHT))) := upd_same
      generalize upd H2 r (.lst (List.replicate ps.length (V.ref T.o_NOUGHT))) = H3 at *
      have hO2 := hO.mono u0
      have hO3 := hO2.mono u1
      have hrn : H r = none := by
        cases e : H r with
        | none => rfl
        | some o => rw [hO2.s _ _ e] at nr; cases nr
      have nrs : r ∉ rs := fun hm => by
        obtain ⟨j, hj⟩ := List.getElem?_of_mem hm
        obtain ⟨zs, e, _⟩ := hO2.row j r hj
        rw [e] at nr
        cases nr
      have nrR : r ≠ R := fun e => by
        rw [e, hO2.top] at nr
        cases nr
      exact ⟨_, hO3.top, small200' (by rw [List.length_map]; omega), _, hO3.more hrn g1 nrs nrR, by simp [hl]⟩
    · rintro H1 ⟨rs, hO, hl⟩
      have hix := Cb.cbl (n := ps.length) (k := 2) (by omega) (by omega)
      obtain ⟨tw1, tw2⟩ := two_of (m := ps.length) (by omega)
      refine ⟨_, rfl, _, rfl, RgOk.of_le (by omega) (by omega) (by omega) (by omega), Cb.cmb 2 (List.range ps.length), by rw [Int.sub_zero, Int.toNat_natCast]; exact hix, ?_⟩
      refine for_cbR (fun i σ H' => ∃ y z t, σ = [some (.ref L), some (.int (ps.length : Int)), some (.ref R), y, z, t, none] ∧ RowsO K (.ref T.o_NOUGHT) H H' R rs ps.length (gP ps) (fun a b => ∃ c d, [c, d] ∈ (Cb.cmb 2 (List.range ps.length)).take i ∧ ((a = c ∧ b = d) ∨ (a = d ∧ b = c))) ∧ ∀ c d, [c, d] ∈ (Cb.cmb 2 (List.range ps.length)).take i → 0 < Wp ps c d) ⟨_, _, _, rfl, ?_, fun c d h => by rw [List.take_zero] at h; cases h⟩ ?_ ?_
      · exact hO.iff fun a b => ⟨fun z => z.elim, fun ⟨c, d, h, _⟩ => by rw [List.take_zero] at h; cases h⟩
      · rintro i ix T2 σ H4 hi ⟨y, z, t, rfl, hO4, hcov⟩ hT2
        obtain ⟨a, b, rfl, ab, bn⟩ := tw2 ix (List.mem_of_getElem? hi)
        rw [pick_two (by omega) (by omega)]
        have s5 := same_new (o := .tup [.int (a : Int), .int (b : Int)]) hT2
        have eT : (upd H4 T2 (.tup [.int (a : Int), .int (b : Int)])) T2 = some (.tup [.int (a : Int), .int (b : Int)]) := upd_same
        generalize upd H4 T2 (.tup [.int (a : Int), .int (b : Int)]) = H5 at *
        refine ⟨T2, _, rfl, .inl (.inl eT), rfl, _, _, rfl, _, _, rfl, rfl, ?_⟩
        have hO5 := hO4.mono s5
        obtain ⟨xa, exa, ta, ua, va, rfl, eta, hua, hva⟩ := hX.at' (pp_at (show a < ps.length by omega))
        obtain ⟨xb, exb, tb, ub, vb, rfl, etb, hub, hvb⟩ := hX.at' (pp_at bn)
        have bda := hB.at (show a < ps.length by omega)
        have bdb := hB.at bn
        have sH := hO5.s
        refine ⟨_, rfl, _, rfl, L, _, _, _, rfl, rfl, .inl (.inl (sH _ _ eL)), atI_nat exa, _, rfl, _, rfl, L, _, _, _, rfl, rfl, .inl (.inl (sH _ _ eL)), atI_nat exb, ta, tb, ua, va, ub, vb, _, _, _, _, rfl, sH _ _ eta, sH _ _ etb, (hua.mono sH).s, (hva.mono sH).s, (hub.mono sH).s, (hvb.mono sH).s, bda.1, bda.2, bdb.1, bdb.2, fun H6 x6 s6 hx6 => ?_⟩
        have hx6 : PrAt K H6 x6 (frq (Wp ps a b)) := hx6
        have hO6 := hO5.mono s6
        refine ⟨_, rfl, _, _, rfl, hx6, _, rfl, ?_⟩
        rw [isLen_q]
        by_cases hw : 0 < Wp ps a b
        · rw [decide_eq_true hw]
          refine iteF ?_
          obtain ⟨ra, za, ea1, ea2, ea3, ea4⟩ := hO6.at (i := a) (by omega)
          have gab : gP ps a b = Wp ps a b := gP_lt ab
          have gba : gP ps b a = Wp ps a b := by unfold gP; rw [if_neg (by omega), if_pos ab]
          refine ⟨_, rfl, _, rfl, _, rfl, R, _, _, _, rfl, rfl, .inl (.inl hO6.top), ea2, _, rfl, ra, za, _, b, rfl, rfl, ea3, ixN_nat (by omega), ?_⟩
          have hO7 := hO6.set (k := b) ea1 ea3 (by rw [gab]; exact hx6)
          have ts7 : TupS H6 (upd H6 ra (.lst (za.set b x6))) := TupS.put ea3
          have hx7 := hx6.tups ts7
          generalize upd H6 ra (.lst (za.set b x6)) = H7 at *
          obtain ⟨rb, zb, eb1, eb2, eb3, eb4⟩ := hO7.at (i := b) (by omega)
          refine ⟨_, rfl, _, rfl, R, _, _, _, rfl, rfl, .inl (.inl hO7.top), eb2, _, rfl, rb, zb, _, a, rfl, rfl, eb3, ixN_nat (by omega), ?_⟩
          have hO8 := hO7.set (k := a) eb1 eb3 (by rw [gba]; exact hx7)
          refine ⟨_, _, _, rfl, hO8.iff fun a' b' => ?_, fun c d hm => ?_⟩
          · rw [take_more hi]
            constructor
            · rintro ((⟨c, d, hm, hz⟩ | ⟨rfl, rfl⟩) | ⟨rfl, rfl⟩)
              · exact ⟨c, d, List.mem_append_left _ hm, hz⟩
              · exact ⟨_, _, List.mem_append_right _ List.mem_cons_self, .inl ⟨rfl, rfl⟩⟩
              · exact ⟨_, _, List.mem_append_right _ List.mem_cons_self, .inr ⟨rfl, rfl⟩⟩
            · rintro ⟨c, d, hm, hz⟩
              rcases List.mem_append.mp hm with hm | hm
              · exact .inl (.inl ⟨c, d, hm, hz⟩)
              · have := List.mem_singleton.mp hm
                cases this
                rcases hz with hz | hz
                · exact .inl (.inr hz)
                · exact .inr hz
          · rw [take_more hi] at hm
            rcases List.mem_append.mp hm with hm | hm
            · exact hcov c d hm
            · have := List.mem_singleton.mp hm
              cases this
              exact hw
        · rw [decide_eq_false hw]
          refine iteT ?_
          refine ⟨_, rfl, _, rfl, small200 (by show 2 ≤ 200; decide), fun t1 n1 => ?_⟩
          have s7 := same_new (o := .tup [.int (a : Int), .int (b : Int)]) n1
          have e1 : (upd H6 t1 (.tup [.int (a : Int), .int (b : Int)])) t1 = some (.tup [.int (a : Int), .int (b : Int)]) := upd_same
          generalize upd H6 t1 (.tup [.int (a : Int), .int (b : Int)]) = H7 at *
          refine ⟨by show 1 ≤ 1000; decide, fun x hx => ⟨x, .ref t1, rfl, upd_same, fun dx hdx hne => ⟨rfl, dx, [("two", .ref t1)], upd_same, ?_, ?_, ?_⟩⟩⟩
          · rw [upd_ne hne]
            exact upd_same
          · rw [upd_ne hne] at hdx
            exact hdx
          · rw [upd_ne hne] at hdx
            rw [sup_heap hx hne]
            have s2 := same_new (o := .xd [("two", .ref t1)]) hdx
            refine kE a b ⟨ab, bn, hw, fun c' d' cd dn lx => ?_⟩ _ t1 dx ((hO6.s.trans s7).trans s2) (s2 _ _ e1) upd_same
            exact hcov c' d' (lex_of2 (m := ps.length) (by omega) hi cd dn lx)
      · rintro σ H4 ⟨y, z, t, rfl, hO4, hcov⟩
        rw [List.take_length] at hO4 hcov
        have hall : AllP ps := fun c d cd dn => hcov c d (tw1 c d cd dn)
        refine ⟨_, rfl, k hall H4 R hO4.s ⟨rs, hO4.top, hl, fun i r hr2 => ?_⟩⟩
        obtain ⟨zs, e, l, q⟩ := hO4.row i r hr2
        refine ⟨zs, e, l, fun j x hx => ?_⟩
        have hi : i < ps.length := by rw [← hl]; exact (List.getElem?_eq_some_iff.mp hr2).1
        have hj : j < ps.length := by rw [← l]; exact (List.getElem?_eq_some_iff.mp hx).1
        rcases q j x hx with ⟨_, hp⟩ | ⟨nd', rfl⟩
        · exact ⟨hp.s, fun _ => hp⟩
        · have eij : i = j := by
            rcases Nat.lt_trichotomy i j with e | e | e
            · exact absurd ⟨i, j, tw1 i j e hj, .inl ⟨rfl, rfl⟩⟩ nd'
            · exact e
            · exact absurd ⟨j, i, tw1 j i e hi, .inr ⟨rfl, rfl⟩⟩ nd'
          subst eij
          refine ⟨⟨_, rfl, ?_⟩, fun ne => absurd rfl ne⟩
          have : gP ps i i = 0 := by unfold gP; rw [if_neg (Nat.lt_irrefl _), if_neg (Nat.lt_irrefl _)]
          rw [this]
          exact nought_sq T _

/-! ### the law's rows -/
theorem bq_int {z : Int} {b : Nat} (h : z.natAbs < 2 ^ b) : Bq b 1 (z : Rat) := by
  refine ⟨?_, ?_⟩
  · show ((z : Rat).num).natAbs < _
    rw [Rat.num_intCast]; exact h
  · show (((z : Rat).den : Int)).natAbs < _
    rw [Rat.den_intCast]; decide
theorem frq_int (z : Int) : frq (z : Rat) = (z, 1) := by
  unfold frq
  rw [Rat.num_intCast, Rat.den_intCast]
  rfl
def BdD (ps : List RR) : Prop := ∀ z ∈ ps, Bq 10 10 z.1 ∧ Bq 174 131 z.2
theorem BdD.p {ps : List RR} (h : BdD ps) : BdP ps := fun z hz => ⟨(h z hz).1.more (by decide) (by decide), (h z hz).2.more (by decide) (by decide)⟩
def sp_ldrawnP (K : PySem.W.Frag) : Sp := fun vs H Q _ => ∃ (n : Int) (r : Addr) (rs : List Int) (wy : Int), vs = [.int n, .ref r, .int wy] ∧ 3 ≤ n ∧ n ≤ 12 ∧ SqL K H r (rs.map V.int) ∧ rowOk rs ∧ 25 ≤ rs.length ∧
  ∀ H' L ps, Same H H' → PrsG K H' L ps → (ps.length : Int) = n → BdP ps → Q (.ref L) H'
theorem ok__law_drawn (T : Env K mg) (su : SupP flM P) : FnOk P w K mg base CX0 4 T.a__law_drawn T.fd__law_drawn ["_law_n", "_law_row", "_law_way"] (sp_ldrawnP K) := by
  refine T.F__law_drawn.ok sc__law_drawn (fun vs H Q E h => ?_) (fun cdv A outer s H vs Q E hr h => ?_)
  · obtain ⟨n, r, rs, wy, rfl, _⟩ := h
    rfl
  · obtain ⟨n, r, rs, wy, rfl, h3, h12, hS, hro, hlen, q⟩ := h
    refine ⟨_, (pss_cons (ps_set (i := 3) sc__law_drawn.nd rfl (.inl rfl) (pe_lst pa_nil))
 (pss_cons (ps_set (i := 4) sc__law_drawn.nd rfl (.inl rfl) (pe_tup (pa_cons (pe_op op_sub (pe_op op_mod (pe_ix ix_list (pv 1) pe_int (fun _ _ => rfl)) pe_int) pe_int) (pa_cons pe_int pa_nil))))
 (pss_cons (ps_for PassesOwn.never rfl (pi_range1 (by rfl) T.m_range (pa_cons (pv 0) pa_nil)) (pg_name (i := 5) sc__law_drawn.nd rfl (.inl rfl))
 (pss_cons (ps_set (i := 4) sc__law_drawn.nd rfl (.inl rfl) (pe_call (ok__law_addQ T su) (hr.mono (by decide)) (by rfl) T.g__law_add T.F__law_add.kp T.b__law_add .nil pass0 (pa_cons (pv 4) (pa_cons (pe_call (ok__law_size T su) (hr.mono (by decide)) (by rfl) T.g__law_size T.F__law_size.kp T.b__law_size .nil pass0 (pa_cons (pe_ix ix_list (pv 1) (pe_op op_add pe_int (pv 5)) (fun _ _ => rfl)) pa_nil)) pa_nil))))
 (pss_cons (ps_set (i := 6) sc__law_drawn.nd rfl (.inl rfl) (pe_call (ok__law_size T su) (hr.mono (by decide)) (by rfl) T.g__law_size T.F__law_size.kp T.b__law_size .nil pass0 (pa_cons (pe_ix ix_list (pv 1) (pe_op op_add pe_int (pv 5)) (fun _ _ => rfl)) pa_nil)))
 (pss_one (ps_expr (pe_bm PySem.F.plainAttrs_list PySem.F.slot_list_append PySem.F.type_list_append mt_append (pv 3) (pa_cons (pe_tup (pa_cons (pv 6) (pa_cons (pe_call (ok__law_mulQ T su) (hr.mono (by decide)) (by rfl) T.g__law_mul T.F__law_mul.kp T.b__law_mul .nil pass0 (pa_cons (pv 6) (pa_cons (pv 4) pa_nil))) pa_nil))) pa_nil)))))))
 (C8.pss_cut (ps_if (pt_cmpR op_eq (pv 2) pe_int (nomark _))
 (pss_one (ps_setLc (i := 3) (own := [("_law_one", 7)]) (by rfl) sc__law_drawn.nd rfl rfl (sw_true rfl rfl rfl (by decide +kernel)) (pi_list (pv 3)) (blkOk_by (own := [("_law_one", 7)]) (N := ["_law_n", "_law_row", "_law_way", "_law_rows", "_law_slope", "_law_k", "_law_first", "_law_one"]) (sc := defScope s__law_drawn) (by decide +kernel)) (fun _ _ _ _ _ => (pg_name (i := 7) sc__law_drawn.nd rfl (.inl rfl))) (fun _ _ _ _ _ => pts_nil) (fun _ _ _ _ _ => (pe_tup (pa_cons (pe_tup (pa_cons (pe_un un_neg (pe_ix (r := rIxT K) ix_tup (pe_ix (r := rIxT K) ix_tup (pv 7) pe_int (fun _ _ => rfl)) pe_int (fun _ _ => rfl))) (pa_cons (pe_ix (r := rIxT K) ix_tup (pe_ix (r := rIxT K) ix_tup (pv 7) pe_int (fun _ _ => rfl)) pe_int (fun _ _ => rfl)) pa_nil))) (pa_cons (pe_ix (r := rIxT K) ix_tup (pv 7) pe_int (fun _ _ => rfl)) pa_nil))))))
 pss_nil)
 (C8.pss_cut (ps_if (pt_cmpR op_eq (pv 2) pe_int (nomark _))
 (pss_one (ps_setLc (i := 3) (own := [("_law_one", 7)]) (by rfl) sc__law_drawn.nd rfl rfl (sw_true rfl rfl rfl (by decide +kernel)) (pi_list (pv 3)) (blkOk_by (own := [("_law_one", 7)]) (N := ["_law_n", "_law_row", "_law_way", "_law_rows", "_law_slope", "_law_k", "_law_first", "_law_one"]) (sc := defScope s__law_drawn) (by decide +kernel)) (fun _ _ _ _ _ => (pg_name (i := 7) sc__law_drawn.nd rfl (.inl rfl))) (fun _ _ _ _ _ => pts_nil) (fun _ _ _ _ _ => (pe_tup (pa_cons (pe_call (ok__law_addQ T su) (hr.mono (by decide)) (by rfl) T.g__law_add T.F__law_add.kp T.b__law_add .nil pass0 (pa_cons (pe_ix (r := rIxT K) ix_tup (pv 7) pe_int (fun _ _ => rfl)) (pa_cons (pe_ix (r := rIxT K) ix_tup (pv 7) pe_int (fun _ _ => rfl)) pa_nil))) (pa_cons (pe_ix (r := rIxT K) ix_tup (pv 7) pe_int (fun _ _ => rfl)) pa_nil))))))
 pss_nil)
 (pss_one (ps_ret (pv 3)))))))), ?_⟩
    have row : ∀ j : Nat, j < 25 → ∃ z : Int, atI (rs.map V.int) (j : Int) = some (.int z) := fun j hj => by
      obtain ⟨z, _, e⟩ := int_atN (rs := rs) (k := j) (by omega)
      exact ⟨z, e⟩
    obtain ⟨z0, a0⟩ := row 0 (by omega)
    refine ⟨small200 (by show 0 ≤ 200; decide), fun L hL => ?_⟩
    have u0 := same_new (o := .lst []) hL
    have g0 : (upd H L (.lst [])) L = some (.lst []) := upd_same
    generalize upd H L (.lst []) = H1 at *
    have hS' : ∀ {H'}, Same H H' → SqL K H' r (rs.map V.int) := fun s => s.seq hS
    have m0 := Int.emod_nonneg z0 (show (21 : Int) ≠ 0 by decide)
    have m1 := Int.emod_lt_of_pos z0 (show (0 : Int) < 21 by decide)
    refine ⟨_, rfl, r, _, _, _, rfl, rfl, hS' u0, a0, _, _, rfl, rfl, (by show (0 : Int) < _; decide), _, _, rfl, rfl, small200 (by show 2 ≤ 200; decide), fun t ht => ?_⟩
    have u1 := same_new (o := .tup [.int (z0 % 21 - 10), .int 1]) ht
    have g1 : (upd H1 t (.tup [.int (z0 % 21 - 10), .int 1])) t = some (.tup [.int (z0 % 21 - 10), .int 1]) := upd_same
    generalize upd H1 t (.tup [.int (z0 % 21 - 10), .int 1]) = H2 at *
    have p0 : PrAt K H2 (.ref t) (frq ((z0 % 21 - 10 : Int) : Rat)) := ⟨t, rfl, by rw [frq_int]; exact g1⟩
    have b0 : Bq 20 1 ((z0 % 21 - 10 : Int) : Rat) := bq_int (by omega)
    refine ⟨_, rfl, n, rfl, by omega, by omega, for_range (lo := 0) (n := n.toNat) (fun i σ H' => ∃ sv y z ps, σ = [some (.int n), some (.ref r), some (.int wy), some (.ref L), some sv, y, z, none] ∧ Same H H' ∧ (∃ b, PrAt K H' sv (frq b) ∧ Bq (20 + 12 * i) (1 + 10 * i) b) ∧ PrsG K H' L ps ∧ ps.length = i ∧ BdD ps) ⟨.ref t, _, _, [], rfl, u0.trans u1, ⟨_, p0, b0⟩, ⟨[], u1 _ _ g0, .nil⟩, rfl, fun z hz => by cases hz⟩ ?_ ?_⟩
    · rintro i σ H3 hi ⟨sv, y, z, ps, rfl, s3, ⟨b, hb, bb⟩, hps, hpl, hpb⟩
      rw [Int.zero_add]
      obtain ⟨z1, a1⟩ := row (1 + i) (by omega)
      obtain ⟨z2, a2⟩ := row (13 + i) (by omega)
      have e1 : (1 : Int) + (i : Int) = ((1 + i : Nat) : Int) := by omega
      have e2 : (13 : Int) + (i : Int) = ((13 + i : Nat) : Int) := by omega
      rw [← e1] at a1
      rw [← e2] at a2
      refine ⟨_, rfl, _, rfl, _, rfl, _, _, rfl, rfl, r, _, _, _, rfl, rfl, hS' s3, a1, _, rfl, fun H4 u w s4 hu fw => ?_⟩
      have hu : PrAt K H4 u (frq (vq w)) := by rw [frq_vq fw.low]; exact hu
      have bw : Bq 10 10 (vq w) := fw.bq.more (by decide) (by decide)
      refine ⟨sv, u, b, vq w, rfl, hb.mono s4, hu, bb.more (by omega) (by omega), bw.more (by decide) (by decide), trivial, fun H5 v5 s5 hv5 => ?_⟩
      have hv5 : PrAt K H5 v5 (frq (b + vq w)) := hv5
      have b5 : Bq (31 + 12 * i) (11 + 10 * i) (b + vq w) := (Bq.add (m := 30 + 12 * i) bb bw (by omega) (by omega)).more (by omega) (by omega)
      refine ⟨_, rfl, _, rfl, _, _, rfl, rfl, r, _, _, _, rfl, rfl, hS' ((s3.trans s4).trans s5), a2, _, rfl, fun H6 u6 w6 s6 hu6 fw6 => ?_⟩
      have hu6 : PrAt K H6 u6 (frq (vq w6)) := by rw [frq_vq fw6.low]; exact hu6
      have bw6 : Bq 10 10 (vq w6) := fw6.bq.more (by decide) (by decide)
      have s36 := (s4.trans s5).trans s6
      obtain ⟨xs, ex, hx⟩ := hps
      refine ⟨_, rfl, .inl ⟨rfl, _, .inl (.inl (s36 _ _ ex))⟩, _, rfl, _, rfl, _, rfl, u6, v5, vq w6, b + vq w, rfl, hu6, hv5.mono s6, bw6.more (by decide) (by decide), b5.more (by omega) (by omega), trivial, fun H7 v7 s7 hv7 => ?_⟩
      have hv7 : PrAt K H7 v7 (frq (vq w6 * (b + vq w))) := hv7
      have b7 : Bq 174 131 (vq w6 * (b + vq w)) := (bw6.mul b5).more (by omega) (by omega)
      refine ⟨small200 (by show 2 ≤ 200; decide), fun t8 n8 => ?_⟩
      have s8 := same_new (o := .tup [u6, v7]) n8
      have g8 : (upd H7 t8 (.tup [u6, v7])) t8 = some (.tup [u6, v7]) := upd_same
      generalize upd H7 t8 (.tup [u6, v7]) = H8 at *
      have s38 := (s36.trans s7).trans s8
      have ex8 := s38 _ _ ex
      have hxl := hx.length
      have hLn : H L = none := hL
      refine ⟨L, xs, _, rfl, rfl, ex8, small200' (by omega), ?_⟩
      have tsD := TupS.put (o := .lst (xs ++ [.ref t8])) ex8
      refine ⟨v5, _, _, ps ++ [(vq w6, vq w6 * (b + vq w))], rfl, same_put (s3.trans s38) hLn, ⟨b + vq w, (((hv5.mono s6).mono s7).mono s8).tups tsD, b5.more (by omega) (by omega)⟩, ⟨_, upd_same, ?_⟩, by rw [List.length_append]; show _ + 1 = _; omega, fun z hz => ?_⟩
      · exact (All2.mono hx fun _ _ h => (h.mono s38).tups tsD).app (.one ⟨t8, _, _, rfl, tsD _ _ g8, ((hu6.mono s7).mono s8).tups tsD, (hv7.mono s8).tups tsD⟩)
      · rcases List.mem_append.mp hz with hz | hz
        · exact hpb z hz
        · rw [List.mem_singleton.mp hz]
          exact ⟨bw6, b7⟩
    · rintro σ H3 ⟨sv, y, z, ps, rfl, s3, ⟨b, hb, bb⟩, hps, hpl, hpd⟩
      refine ⟨fun σ' H' => ∃ L' y z ps, σ' = [some (.int n), some (.ref r), some (.int wy), some (.ref L'), some sv, y, z, none] ∧ Same H H' ∧ PrsG K H' L' ps ∧ (ps.length : Int) = n ∧ BdP ps ∧ (wy = 2 → BdD ps), ?_, ?_⟩
      · refine ⟨_, rfl, rfl, _, rfl, ite2 (fun hw => ?_) (fun _ => ⟨_, _, _, ps, rfl, s3, hps, by omega, hpd.p, fun _ => hpd⟩)⟩
        have hw1 : wy = 1 := V.int.inj (of_decide_eq_true hw)
        obtain ⟨xs, ex, hx⟩ := hps
        refine ⟨_, rfl, L, rfl, ⟨_, .inl (.inl ex)⟩, fun D hD => ?_⟩
        refine lc_list (K := K) (a := L) (xs := xs) (fun i H' => Same H3 H' ∧ ∃ zs, H' D = some (.lst zs) ∧ All2 (Tw K H') zs ((ps.take i).map fun z => (-z.2, z.1))) ⟨same_new hD, [], upd_same, by rw [List.take_zero]; exact .nil⟩ (fun i H' _ ⟨s, _⟩ => .inl (.inl (s _ _ ex))) ?_ ?_
        · rintro i x H' hxi ⟨s4, zs, ez, hz⟩
          obtain ⟨pz, epz, tx, ux, vx, rfl, etx, hux, hvx⟩ := hx.at hxi
          have hil := (List.getElem?_eq_some_iff.mp epz).1
          have etx := s4 _ _ etx
          obtain ⟨tu, rfl, hu⟩ := hux.mono s4
          obtain ⟨tv, rfl, hv⟩ := hvx.mono s4
          refine ⟨rfl, yes_read ?_⟩
          refine ⟨_, rfl, tx, _, _, _, rfl, rfl, .inl (.inl etx), atI_nat (j := 1) rfl, tv, _, _, _, rfl, rfl, .inl (.inl hv), atI_nat (j := 0) rfl, _, rfl, _, rfl, tx, _, _, _, rfl, rfl, .inl (.inl etx), atI_nat (j := 1) rfl, tv, _, _, _, rfl, rfl, .inl (.inl hv), atI_nat (j := 1) rfl, small200 (by show 2 ≤ 200; decide), fun t5 n5 => ?_⟩
          have s5 := same_new (o := .tup [.int (-(frq pz.2).1), .int (frq pz.2).2]) n5
          have g5 : (upd H' t5 (.tup [.int (-(frq pz.2).1), .int (frq pz.2).2])) t5 = some (.tup [.int (-(frq pz.2).1), .int (frq pz.2).2]) := upd_same
          generalize upd H' t5 (.tup [.int (-(frq pz.2).1), .int (frq pz.2).2]) = H5 at *
          refine ⟨_, rfl, tx, _, _, _, rfl, rfl, .inl (.inl (s5 _ _ etx)), atI_nat (j := 0) rfl, small200 (by show 2 ≤ 200; decide), fun t6 n6 => ?_⟩
          have s6 := same_new (o := .tup [.ref t5, .ref tu]) n6
          have g6 : (upd H5 t6 (.tup [.ref t5, .ref tu])) t6 = some (.tup [.ref t5, .ref tu]) := upd_same
          generalize upd H5 t6 (.tup [.ref t5, .ref tu]) = H6 at *
          have s46 := s5.trans s6
          have ez6 := s46 _ _ ez
          have tsD := TupS.put (o := .lst (zs ++ [.ref t6])) ez6
          have hzl := hz.length
          rw [List.length_map, List.length_take] at hzl
          refine ⟨zs, ez6, small200' (by omega), same_put (s4.trans s46) hD, _, upd_same, ?_⟩
          rw [take_more epz, List.map_append]
          refine (All2.mono hz fun _ _ h => (h.mono s46).tups tsD).app (.one ⟨t6, _, _, rfl, tsD _ _ g6, ⟨t5, rfl, ?_⟩, ⟨tu, rfl, tsD _ _ (s46 _ _ hu)⟩⟩)
          show (upd H6 D (.lst (zs ++ [.ref t6]))) t5 = some (.tup [.int (frq (-pz.2)).1, .int (frq (-pz.2)).2])
          rw [frq_neg]
          exact tsD _ _ (s6 _ _ g5)
        · rintro H' ⟨s4, zs, ez, hz⟩
          rw [List.take_of_length_le (by have := hx.length; omega)] at hz
          refine ⟨D, _, _, ps.map (fun z => (-z.2, z.1)), rfl, s3.trans s4, ⟨zs, ez, hz⟩, by rw [List.length_map]; omega, fun z hz' => ?_, fun h => by omega⟩
          obtain ⟨z', h1, rfl⟩ := List.mem_map.mp hz'
          exact ⟨(hpd.p _ h1).2.neg, (hpd.p _ h1).1⟩
      rintro _ H4 ⟨L1, y1, z1, ps1, rfl, s4, hps1, hl1, hb1, hd1⟩
      refine ⟨fun σ' H' => ∃ L' y z ps, σ' = [some (.int n), some (.ref r), some (.int wy), some (.ref L'), some sv, y, z, none] ∧ Same H H' ∧ PrsG K H' L' ps ∧ (ps.length : Int) = n ∧ BdP ps, ?_, ?_⟩
      · refine ⟨_, rfl, rfl, _, rfl, ite2 (fun hw => ?_) (fun _ => ⟨_, _, _, ps1, rfl, s4, hps1, hl1, hb1⟩)⟩
        have hw2 : wy = 2 := V.int.inj (of_decide_eq_true hw)
        have hpd := hd1 hw2
        obtain ⟨xs, ex, hx⟩ := hps1
        refine ⟨_, rfl, L1, rfl, ⟨_, .inl (.inl ex)⟩, fun D hD => ?_⟩
        refine lc_list (K := K) (a := L1) (xs := xs) (fun i H' => Same H4 H' ∧ ∃ zs, H' D = some (.lst zs) ∧ All2 (Tw K H') zs ((ps1.take i).map fun z => (z.1 + z.2, z.2))) ⟨same_new hD, [], upd_same, by rw [List.take_zero]; exact .nil⟩ (fun i H' _ ⟨s, _⟩ => .inl (.inl (s _ _ ex))) ?_ ?_
        · rintro i x H' hxi ⟨s5, zs, ez, hz⟩
          obtain ⟨pz, epz, tx, ux, vx, rfl, etx, hux, hvx⟩ := hx.at hxi
          have hil := (List.getElem?_eq_some_iff.mp epz).1
          have etx := s5 _ _ etx
          have hu := hux.mono s5
          have hv := hvx.mono s5
          have bz := hpd pz (List.mem_of_getElem? epz)
          refine ⟨rfl, yes_read ?_⟩
          refine ⟨_, rfl, tx, _, _, _, rfl, rfl, .inl (.inl etx), atI_nat (j := 0) rfl, _, rfl, tx, _, _, _, rfl, rfl, .inl (.inl etx), atI_nat (j := 1) rfl, ux, vx, _, _, rfl, hu, hv, bz.1.more (by decide) (by decide), bz.2.more (by decide) (by decide), trivial, fun H6 v6 s6 hv6 => ?_⟩
          refine ⟨_, rfl, tx, _, _, _, rfl, rfl, .inl (.inl (s6 _ _ etx)), atI_nat (j := 1) rfl, small200 (by show 2 ≤ 200; decide), fun t7 n7 => ?_⟩
          have s7 := same_new (o := .tup [v6, vx]) n7
          have g7 : (upd H6 t7 (.tup [v6, vx])) t7 = some (.tup [v6, vx]) := upd_same
          generalize upd H6 t7 (.tup [v6, vx]) = H7 at *
          have s57 := s6.trans s7
          have ez7 := s57 _ _ ez
          have tsD := TupS.put (o := .lst (zs ++ [.ref t7])) ez7
          have hzl := hz.length
          rw [List.length_map, List.length_take] at hzl
          refine ⟨zs, ez7, small200' (by omega), same_put (s5.trans s57) hD, _, upd_same, ?_⟩
          rw [take_more epz, List.map_append]
          exact (All2.mono hz fun _ _ h => (h.mono s57).tups tsD).app (.one ⟨t7, _, _, rfl, tsD _ _ g7, (hv6.mono s7).tups tsD, (hv.mono s57).tups tsD⟩)
        · rintro H' ⟨s5, zs, ez, hz⟩
          rw [List.take_of_length_le (by have := hx.length; omega)] at hz
          refine ⟨D, _, _, ps1.map (fun z => (z.1 + z.2, z.2)), rfl, s4.trans s5, ⟨zs, ez, hz⟩, by rw [List.length_map]; omega, fun z hz' => ?_⟩
          obtain ⟨z', h1, rfl⟩ := List.mem_map.mp hz'
          exact ⟨(Bq.add (m := 184) (hpd _ h1).1 (hpd _ h1).2 (by decide) (by decide)).more (by decide) (by decide), (hpd.p _ h1).2⟩
      rintro _ H5 ⟨L2, y2, z2, ps2, rfl, s5, hps2, hl2, hb2⟩
      exact ⟨_, rfl, q H5 L2 ps2 s5 hps2 hl2 hb2⟩
def sp_lbad (K : PySem.W.Frag) : Sp := fun vs H Q _ => ∃ (L : Addr) (ps : List RR), vs = [.ref L] ∧ ps.length ≤ 12 ∧ PrsG K H L ps ∧ BdP ps ∧ ∀ H' v, Same H H' → BadV H' ps v → Q v H'
theorem ok__law_bad (T : Env K mg) (su : SupP flM P) : FnOk P w K mg base CX0 4 T.a__law_bad T.fd__law_bad ["_law_rows"] (sp_lbad K) := by
  refine T.F__law_bad.ok sc__law_bad (fun vs H Q E h => ?_) (fun cdv A outer s H vs Q E hr h => ?_)
  · obtain ⟨L, ps, rfl, _⟩ := h
    rfl
  · obtain ⟨L, ps, rfl, h12, ⟨xs, eL, hX⟩, hB, q⟩ := h
    refine ⟨_, (pss_cons (ps_for PassesOwn.never rfl (pi_range1 (by rfl) T.m_range (pa_cons (pe_callB (id := "len") call_len_seq (by rfl) T.m_len (by decide +kernel) (pa_cons (pv 0) pa_nil)) pa_nil)) (pg_name (i := 1) sc__law_bad.nd rfl (.inl rfl))
 (pss_one (ps_for PassesOwn.never rfl (pi_range2 (by rfl) T.m_range (pa_cons (pe_op op_add (pv 1) pe_int) (pa_cons (pe_callB (id := "len") call_len_seq (by rfl) T.m_len (by decide +kernel) (pa_cons (pv 0) pa_nil)) pa_nil))) (pg_name (i := 2) sc__law_bad.nd rfl (.inl rfl))
 (pss_one (ps_if (pt_cmpR op_le (pe_ix ix_tup (pe_call (ok__law_spreadG T su) (hr.mono (by decide)) (by rfl) T.g__law_spread T.F__law_spread.kp T.b__law_spread .nil pass0 (pa_cons (pe_ix ix_list (pv 0) (pv 1) (fun _ _ => rfl)) (pa_cons (pe_ix ix_list (pv 0) (pv 2) (fun _ _ => rfl)) pa_nil))) pe_int (fun _ _ => rfl)) pe_int (nomark _))
 (pss_one (ps_ret (pe_tup (pa_cons (pv 1) (pa_cons (pv 2) pa_nil)))))
 pss_nil)))))
 (pss_one (ps_ret pe_non))), ?_⟩
    have lX := hX.length
    refine ⟨_, rfl, L, xs, rfl, .inl (.inl (.inl eL)), ?_⟩
    rw [lX]
    refine ⟨_, rfl, by omega, by omega, for_range (lo := 0) (n := ((ps.length : Nat) : Int).toNat) (fun i σ H' => ∃ y z, σ = [some (.ref L), y, z] ∧ Same H H' ∧ ∀ c d, c < d → d < ps.length → c < i → 0 < Wp ps c d) ⟨_, _, rfl, Same.refl _, fun c d _ _ h => by omega⟩ ?_ ?_⟩
    · rintro i σ H1 hi ⟨y, z, rfl, s1, hg⟩
      rw [Int.zero_add]
      refine ⟨_, rfl, _, _, rfl, rfl, _, rfl, L, xs, rfl, .inl (.inl (.inl (s1 _ _ eL))), ?_⟩
      rw [lX]
      refine ⟨_, _, rfl, ⟨by omega, by omega, by omega, by omega⟩, ?_⟩
      refine for_range (lo := (i : Int) + 1) (n := ((ps.length : Int) - ((i : Int) + 1)).toNat) (fun j σ H' => ∃ z, σ = [some (.ref L), some (.int (i : Int)), z] ∧ Same H H' ∧ ∀ c d, c < d → d < ps.length → (c < i ∨ (c = i ∧ d < i + 1 + j)) → 0 < Wp ps c d) ⟨_, rfl, s1, fun c d cd dn h => hg c d cd dn (by omega)⟩ ?_ ?_
      · rintro j σ H2 hj ⟨z, rfl, s2, hg2⟩
        obtain ⟨b, hb⟩ : ∃ b : Nat, b = i + 1 + j := ⟨_, rfl⟩
        have eb : (i : Int) + 1 + (j : Int) = (b : Int) := by omega
        rw [eb]
        obtain ⟨xa, exa, ta, ua, va, rfl, eta, hua, hva⟩ := hX.at' (pp_at (show i < ps.length by omega))
        obtain ⟨xb, exb, tb, ub, vb, rfl, etb, hub, hvb⟩ := hX.at' (pp_at (show b < ps.length by omega))
        have bda := hB.at (show i < ps.length by omega)
        have bdb := hB.at (show b < ps.length by omega)
        refine ⟨_, rfl, _, rfl, L, _, _, _, rfl, rfl, .inl (.inl (s2 _ _ eL)), atI_nat exa, _, rfl, _, rfl, L, _, _, _, rfl, rfl, .inl (.inl (s2 _ _ eL)), atI_nat exb, ta, tb, ua, va, ub, vb, _, _, _, _, rfl, s2 _ _ eta, s2 _ _ etb, (hua.mono s2).s, (hva.mono s2).s, (hub.mono s2).s, (hvb.mono s2).s, bda.1, bda.2, bdb.1, bdb.2, fun H3 x3 s3 hx3 => ?_⟩
        have hx3 : PrAt K H3 x3 (frq (Wp ps i b)) := hx3
        obtain ⟨t3, rfl, h3⟩ := hx3
        refine ⟨t3, _, _, _, rfl, rfl, .inl (.inl h3), atI_nat (j := 0) rfl, _, _, rfl, rfl, _, rfl, ite2 (fun hd => ?_) (fun hd => ?_)⟩
        · have hle := of_decide_eq_true hd
          refine ⟨_, rfl, _, rfl, small200 (by show 2 ≤ 200; decide), fun t4 n4 => ?_⟩
          refine q _ (.ref t4) ((s2.trans s3).trans (same_new n4)) (.inr ⟨t4, i, b, rfl, ⟨by omega, by omega, fun hw => ?_, fun c' d' cd dn lx => hg2 c' d' cd dn (by omega)⟩, upd_same⟩)
          have := (num_pos_iff _).mpr hw
          omega
        · have hle := nd hd
          refine ⟨_, rfl, s2.trans s3, fun c d cd dn h => ?_⟩
          by_cases e : c = i ∧ d = b
          · obtain ⟨rfl, rfl⟩ := e
            exact (num_pos_iff _).mp (by omega)
          · exact hg2 c d cd dn (by omega)
      · rintro σ H2 ⟨z, rfl, s2, hg2⟩
        exact ⟨_, _, rfl, s2, fun c d cd dn h => hg2 c d cd dn (by omega)⟩
    · rintro σ H1 ⟨y, z, rfl, s1, hg⟩
      exact q H1 .non s1 (.inl ⟨rfl, fun c d cd dn => hg c d cd dn (by omega)⟩)

/-! ### the pairs as data -/
def dz (z : RR) : PyData := .tuple [dat2 (frq z.1), dat2 (frq z.2)]
theorem Tw.dp {H : Hp} {x : V} {z : RR} (h : Tw K H x z) : Dp K H x (dz z) := by
  obtain ⟨t, u, v, rfl, et, hu, hv⟩ := h
  exact .tup (.inl (.inl et)) (.cons hu.dp (.cons hv.dp .nil))
theorem prs_dp {H : Hp} {xs : List V} {ps : List RR} (h : All2 (Tw K H) xs ps) : DpAll K H xs (ps.map dz) := by
  induction h with
  | nil => exact .nil
  | cons a _ ih => exact .cons a.dp ih
theorem dz_key (ps : List RR) : PyData.canLayAll0 (ps.map dz) = true ∧ PyData.depthAll (ps.map dz) ≤ 2 := by
  induction ps with
  | nil => exact ⟨rfl, by decide⟩
  | cons z l ih =>
    refine ⟨?_, ?_⟩
    · show (PyData.canLay0 (dz z) && PyData.canLayAll0 (l.map dz)) = true
      rw [ih.1]
      rfl
    · show max (PyData.depth (dz z)) (PyData.depthAll (l.map dz)) ≤ 2
      have h : PyData.depth (dz z) ≤ 2 := Nat.le_refl _
      have := ih.2
      omega
theorem dz_sh (ps : List RR) : SeqAt.shaped (.list (ps.map dz)) = true := by
  unfold SeqAt.shaped
  have h1 : PyData.canLay0 (.list (ps.map dz)) = true := (dz_key ps).1
  have h2 : PyData.depth (.list (ps.map dz)) ≤ 64 := by
    have := (dz_key ps).2
    simp only [PyData.depth]
    omega
  rw [h1, decide_eq_true h2]
  rfl
theorem gP_mm (ps : List RR) (i j : Nat) : Wp ps (min i j) (max i j) = gP ps i j := by
  unfold gP
  rcases Nat.lt_trichotomy i j with e | e | e
  · rw [if_pos e, Nat.min_eq_left (Nat.le_of_lt e), Nat.max_eq_right (Nat.le_of_lt e)]
  · subst e
    rw [if_neg (Nat.lt_irrefl _), if_neg (Nat.lt_irrefl _), Nat.min_self, Nat.max_self]
    unfold Wp
    grind
  · rw [if_neg (by omega), if_pos e, Nat.min_eq_right (Nat.le_of_lt e), Nat.max_eq_left (Nat.le_of_lt e)]
theorem RowsB.v {H : Hp} {R : Addr} {n : Nat} {g : Nat → Nat → Rat} (h : RowsB K H R n g) : RowsV K H R n g := by
  obtain ⟨rs, e, l, q⟩ := h
  exact ⟨rs, e, l, fun i r hr => let ⟨xs, e1, l1, q1⟩ := q i r hr; ⟨xs, e1, row_all l1 fun k x hk => (q1 k x hk).1⟩⟩
theorem two_tup {H : Hp} {t : Addr} {c d : Nat} (h : H t = some (.tup [.int (c : Int), .int (d : Int)])) : TupAt H (.ref t) [(c : Int), (d : Int)] := ⟨t, rfl, h⟩
theorem two_dp {H : Hp} {t : Addr} {c d : Nat} (h : H t = some (.tup [.int (c : Int), .int (d : Int)])) : Dp K H (.ref t) (.tuple [.int (c : Int), .int (d : Int)]) :=
  .tup (.inl (.inl h)) (.cons (.int _) (.cons (.int _) .nil))
theorem ok_law (T : Env K mg) (su : SupP flM P) : FnOk P w K mg base CX0 12 T.a_law T.fd_law ["_law_script"] (sp_law K) := by
  refine T.F_law.ok sc_law (fun vs H Q E h => ?_) (fun cdv A outer s H vs Q E hr h => ?_)
  · obtain ⟨a, ns, rfl, _⟩ := h
    rfl
  · obtain ⟨a, ns, rfl, hS, hl, q⟩ := h
    refine ⟨_, (pss_cons (ps_set (i := 1) sc_law.nd rfl (.inr rfl) (pe_call (ok__law_flow T su) (hr.mono (by decide)) (by rfl) T.g__law_flow T.F__law_flow.kp T.b__law_flow .nil pass0 (pa_cons (pv 0) (pa_cons pe_int pa_nil))))
 (pss_cons (ps_set (i := 2) sc_law.nd rfl (.inr rfl) (pe_call (ok__law_many T su) (hr.mono (by decide)) (by rfl) T.g__law_many T.F__law_many.kp T.b__law_many .nil pass0 (pa_cons (pv 1) pa_nil)))
 (pss_cons (ps_set (i := 3) sc_law.nd rfl (.inr rfl) (pe_call (ok__law_drawn T su) (hr.mono (by decide)) (by rfl) T.g__law_drawn T.F__law_drawn.kp T.b__law_drawn .nil pass0 (pa_cons (pv 2) (pa_cons (pe_slice sl_list (pv 1) (po_some pe_int) po_none) (pa_cons (pe_op op_mod (pe_op op_fdiv (pe_ix ix_list (pv 1) pe_int (fun _ _ => rfl)) pe_int) pe_int) pa_nil)))))
 (C8.pss_cut (ps_if (pt_cmpR op_eq (pe_op op_mod (pe_ix ix_list (pv 1) pe_int (fun _ _ => rfl)) pe_int) pe_int (nomark _))
 (pss_cons (ps_set (i := 4) sc_law.nd rfl (.inl rfl) (pe_op op_mod (pe_ix ix_list (pv 1) pe_int (fun _ _ => rfl)) (pv 2)))
 (pss_one (ps_set (i := 3) sc_law.nd rfl (.inr rfl) (pe_op op_cat (pe_op op_cat (pe_slice sl_list (pv 3) po_none (po_some (pv 4))) (pe_lst (pa_cons (pe_tup (pa_cons (pe_tup (pa_cons (pe_op op_sub (pe_op op_mod (pe_ix ix_list (pv 1) pe_int (fun _ _ => rfl)) pe_int) pe_int) (pa_cons pe_int pa_nil))) (pa_cons (pe_call (ok__law_low T su) (hr.mono (by decide)) (by rfl) T.g__law_low T.F__law_low.kp T.b__law_low .nil pass0 (pa_cons (pe_op op_sub (pe_op op_mod (pe_op op_fdiv (pe_ix ix_list (pv 1) pe_int (fun _ _ => rfl)) pe_int) pe_int) pe_int) (pa_cons pe_int pa_nil))) pa_nil))) pa_nil))) (pe_slice sl_list (pv 3) (po_some (pe_op op_add (pv 4) pe_int)) po_none)))))
 pss_nil)
 (C8.pss_cut (ps_if (PW.pt (pw_and (pt_cmpR op_eq (pe_op op_mod (pe_ix ix_list (pv 1) pe_int (fun _ _ => rfl)) pe_int) pe_int (nomark _)) (pw_and1 (pt_cmpR op_eq (pe_op op_mod (pe_ix ix_list (pv 1) pe_int (fun _ _ => rfl)) pe_int) pe_int (nomark _)))))
 (pss_one (ps_set (i := 3) sc_law.nd rfl (.inr rfl) (pe_lc (own := [("_law_k", 13)]) (by rfl) sc_law.nd (pi_range1 (by rfl) T.m_range (pa_cons (pv 2) pa_nil)) (blkOk_by (own := [("_law_k", 13)]) (N := ["_law_script", "_law_row", "_law_n", "_law_rows", "_law_at", "_law_bad_here", "_law_handed", "_law_found", "_law_two", "_law_refused", "e", "_law_due", "_law_i", "_law_k"]) (sc := defScope s_law) (by decide +kernel)) (fun _ _ _ _ _ => (pg_name (i := 13) sc_law.nd rfl (.inl rfl))) (fun _ _ _ _ _ => pts_nil) (fun _ _ _ _ _ => (pe_tup (pa_cons (pe_tup (pa_cons (pe_op op_sub (pe_op op_mod (pe_ix (r := rIxL K) ix_list (pv 1) (pe_op op_add pe_int (pv 13)) (fun _ _ => rfl)) pe_int) pe_int) (pa_cons pe_int pa_nil))) (pa_cons (pe_tup (pa_cons (pe_op op_sub (pe_op op_mod (pe_op op_fdiv (pe_ix (r := rIxL K) ix_list (pv 1) (pe_op op_add pe_int (pv 13)) (fun _ _ => rfl)) pe_int) pe_int) pe_int) (pa_cons pe_int pa_nil))) pa_nil)))))))
 pss_nil)
 (pss_cons (ps_set (i := 5) sc_law.nd rfl (.inl rfl) (pe_call (ok__law_bad T su) (hr.mono (by decide)) (by rfl) T.g__law_bad T.F__law_bad.kp T.b__law_bad .nil pass0 (pa_cons (pv 3) pa_nil)))
 (pss_cons (ps_set (i := 6) sc_law.nd rfl (.inl rfl) (pe_callTy call_list_of (by rfl) T.m_list (by decide +kernel) (pa_cons (pv 3) pa_nil)))
 (pss_cons (ps_set (i := 7) sc_law.nd rfl (.inl rfl) pe_non)
 (pss_cons (ps_set (i := 8) sc_law.nd rfl (.inl rfl) pe_non)
 (pss_cons (ps_set (i := 9) sc_law.nd rfl (.inl rfl) pe_bl)
 (pss_cons (ps_try_as (i := 10) rfl rfl sc_law.nd rfl rfl ⟨rfl, by decide, .inl T.c_BadPairs⟩ takes0 (fun W pn xe tk _ => (pss_one (ps_set (i := 7) sc_law.nd rfl (.inl rfl) (pe_callS (ok_of_pairs T su) (hr.mono (by decide)) (by rfl) T.g_of_pairs T.F_of_pairs.kp T.b_of_pairs (fun σ => passAt tk σ) (pa_cons (pv 6) pa_nil))))) (fun a oe cls d pn hz hf => (pss_cons (ps_set (i := 9) sc_law.nd rfl (.inl rfl) pe_bl)
 (pss_one (ps_set (i := 8) sc_law.nd rfl (.inl rfl) (pe_xf (C := T.C_BadPairs) T.xf_BadPairs T.na_BadPairs_two hz hf (pv 10)))))))
 (pss_cons (ps_if (PW.pt (pw_or (pt_cmpR op_ne (pv 9) (pe_cmpR op_notN (pv 5) pe_non (nomark _)) (nomark _)) (pw_or1 (pt_cmpR (op_neD hr.units) (pv 6) (pv 3) (nomark _)))))
 (pss_one (ps_ret pe_bl))
 pss_nil)
 (pss_cons (ps_if (pt_val (pv 9))
 (pss_one (ps_ret (pe_and (pe_call (ok__law_tuple T su) (hr.mono (by decide)) (by rfl) T.g__law_tuple T.F__law_tuple.kp T.b__law_tuple .nil pass0 (pa_cons (pv 8) (pa_cons pe_int pa_nil))) (pe_one (pe_cmpR (op_eqD hr.units) (pv 8) (pv 5) (nomark _))))))
 pss_nil)
 (pss_cons (ps_setLc (i := 11) (own := [("_law_i", 12)]) (by rfl) sc_law.nd rfl rfl (sw_true rfl rfl rfl (by decide +kernel)) (pi_range1 (by rfl) T.m_range (pa_cons (pv 2) pa_nil)) (blkOk_by (own := [("_law_i", 12)]) (N := ["_law_script", "_law_row", "_law_n", "_law_rows", "_law_at", "_law_bad_here", "_law_handed", "_law_found", "_law_two", "_law_refused", "e", "_law_due", "_law_i", "_law_k"]) (sc := defScope s_law) (by decide +kernel)) (fun _ _ _ _ _ => (pg_name (i := 12) sc_law.nd rfl (.inr rfl))) (fun _ _ _ _ _ => pts_nil) (fun _ _ _ _ _ => (pe_lc (own := [("_law_k", 13)]) (by rfl) sc_law.nd (pi_range1 (by rfl) T.m_range (pa_cons (pv 2) pa_nil)) (by refine blkOk_by (own := [("_law_k", 13)]) (N := ["_law_script", "_law_row", "_law_n", "_law_rows", "_law_at", "_law_bad_here", "_law_handed", "_law_found", "_law_two", "_law_refused", "e", "_law_due", "_law_i", "_law_k"]) (sc := relS _ (defScope s_law)) ?_; decide +kernel) (fun _ _ _ _ _ => (pg_name (i := 13) sc_law.nd rfl (.inl rfl))) (fun _ _ _ _ _ => pts_nil) (fun _ _ _ _ _ => (pe_call (ok__law_spreadG T su) (hr.mono (by decide)) (by rfl) T.g__law_spread T.F__law_spread.kp T.b__law_spread .nil pass0 (pa_cons (pe_ix (r := rIxL K) ix_list (pv 3) (pe_callB (call_min2 rfl) (by rfl) T.m_min (by decide +kernel) (pa_cons (pv 12) (pa_cons (pv 13) pa_nil))) (fun _ _ => rfl)) (pa_cons (pe_ix (r := rIxL K) ix_list (pv 3) (pe_callB (call_max2 rfl) (by rfl) T.m_max (by decide +kernel) (pa_cons (pv 12) (pa_cons (pv 13) pa_nil))) (fun _ _ => rfl)) pa_nil)))))))
 (pss_one (ps_ret (pe_and (pe_call (ok__law_table T su) (hr.mono (by decide)) (by rfl) T.g__law_table T.F__law_table.kp T.b__law_table .nil pass0 (pa_cons (pv 7) (pa_cons (pv 11) pa_nil))) (pe_one (pe_cmpR op_isN (pe_call (ok_broken T su) (hr.mono (by decide)) (by rfl) T.g_broken T.F_broken.kp T.b_broken .nil passL (pa_cons (pv 7) pa_nil)) pe_non (nomark _)))))))))))))))))))), ?_⟩
    refine ⟨_, rfl, a, ns, 44, rfl, hS, hl, by decide, by decide, fun H1 p rs hs hp hlen hro hrow => ?_⟩
    have hlen : rs.length = 44 := hlen
    have hR : ∀ {H2}, Same H1 H2 → SqL K H2 p (rs.map V.int) := fun s => .inl (.inl (s _ _ hrow))
    obtain ⟨r0, m0, a0⟩ := int_at (rs := rs) (k := 0) (by omega)
    obtain ⟨r2, m2, a2⟩ := int_at (rs := rs) (k := 2) (by omega)
    refine ⟨_, rfl, p, rs, rfl, hR (Same.refl _), by omega, fun n h3 h12 => ?_⟩
    obtain ⟨r3, m3, a3⟩ := int_at (rs := rs) (k := 3) (by omega)
    obtain ⟨r4, m4, a4⟩ := int_at (rs := rs) (k := 4) (by omega)
    refine ⟨_, rfl, _, rfl, 5, rfl, p, _, rfl, hR (Same.refl _), fun q1 hq1 => ?_⟩
    have s1 := same_new (o := .lst (cutV (rs.map V.int) (some 5) none)) hq1
    have e1 : (upd H1 q1 (.lst (cutV (rs.map V.int) (some 5) none))) q1 = some (.lst ((rs.drop 5).map V.int)) := by rw [upd_same, show (5 : Int) = ((5 : Nat) : Int) from rfl, cut_ok]
    generalize upd H1 q1 (.lst (cutV (rs.map V.int) (some 5) none)) = H2 at *
    refine ⟨_, rfl, p, _, _, _, rfl, rfl, hR s1, a2, _, _, rfl, rfl, ⟨by decide, by decide⟩, _, _, rfl, rfl, (by show (0 : Int) < _; decide), n, q1, rs.drop 5, _, rfl, h3, h12, .inl (.inl e1), rowOk_drop hro 5, by rw [List.length_drop]; omega, fun H3 L ps s3 hP hl hB => ?_⟩
    have b9 : ∀ z : Int, -4 ≤ z % 9 - 4 ∧ z % 9 - 4 ≤ 4 := fun z => by omega
    have b7 : ∀ z : Int, -3 ≤ z % 7 - 3 ∧ z % 7 - 3 ≤ 3 := fun z => by omega
    have hR2 : ∀ {H'}, Same H2 H' → SqL K H' p (rs.map V.int) := fun s => hR (s1.trans s)
    refine ⟨fun σ' H' => ∃ y4 L ps, σ' = [some (.ref a), some (.ref p), some (.int n), some (.ref L), y4, none, none, none, none, none, none, none, none, none] ∧ Same H2 H' ∧ PrsG K H' L ps ∧ (ps.length : Int) = n ∧ BdP ps, ?_, ?_⟩
    · refine ⟨_, rfl, p, _, _, _, rfl, rfl, hR2 s3, a2, _, _, rfl, rfl, (by show (0 : Int) < _; decide), rfl, _, rfl, ite2 (fun _ => ?_) (fun _ => ⟨_, L, ps, rfl, s3, hP, hl, hB⟩)⟩
      have q0 := Int.emod_nonneg r3 (show n ≠ 0 by omega)
      have q1' := Int.emod_lt_of_pos r3 (show (0 : Int) < n by omega)
      obtain ⟨m, em⟩ : ∃ m : Nat, r3 % n = (m : Int) := ⟨(r3 % n).toNat, by omega⟩
      obtain ⟨xs, ex, hx⟩ := id hP
      have lx := hx.length
      refine ⟨_, rfl, p, _, _, _, rfl, rfl, hR2 s3, a3, _, rfl, _, _, rfl, rfl, (by show (0 : Int) < n; omega), ?_⟩
      refine ⟨_, rfl, _, rfl, r3 % n, rfl, L, xs, rfl, .inl (.inl ex), fun c1 n1 => ?_⟩
      have u1 := same_new (o := .lst (cutV xs none (some (r3 % n)))) n1
      have g1 : (upd H3 c1 (.lst (cutV xs none (some (r3 % n))))) c1 = some (.lst (xs.take m)) := by rw [upd_same, em, cut_take]
      generalize upd H3 c1 (.lst (cutV xs none (some (r3 % n)))) = H4 at *
      refine ⟨_, rfl, p, _, _, _, rfl, rfl, hR2 (s3.trans u1), a4, _, _, rfl, rfl, (by show (0 : Int) < _; decide), _, _, rfl, rfl, small200 (by show 2 ≤ 200; decide), fun t1 n2 => ?_⟩
      have u2 := same_new (o := .tup [.int (r4 % 9 - 4), .int 1]) n2
      have g2 : (upd H4 t1 (.tup [.int (r4 % 9 - 4), .int 1])) t1 = some (.tup [.int (r4 % 9 - 4), .int 1]) := upd_same
      generalize upd H4 t1 (.tup [.int (r4 % 9 - 4), .int 1]) = H5 at *
      refine ⟨_, rfl, p, _, _, _, rfl, rfl, hR2 ((s3.trans u1).trans u2), a4, _, _, rfl, rfl, ⟨by decide, by decide⟩, _, _, rfl, rfl, (by show (0 : Int) < _; decide), _, _, rfl, rfl, r4 / 9 % 9 - 4, 3, rfl, by decide, by decide, fun t3 n3 => ?_⟩
      have u3 := same_new (o := .tup [.int (lowI (r4 / 9 % 9 - 4) 3).1, .int (lowI (r4 / 9 % 9 - 4) 3).2]) n3
      have g3 : (upd H5 t3 (.tup [.int (lowI (r4 / 9 % 9 - 4) 3).1, .int (lowI (r4 / 9 % 9 - 4) 3).2])) t3 = some (.tup [.int (lowI (r4 / 9 % 9 - 4) 3).1, .int (lowI (r4 / 9 % 9 - 4) 3).2]) := upd_same
      generalize upd H5 t3 (.tup [.int (lowI (r4 / 9 % 9 - 4) 3).1, .int (lowI (r4 / 9 % 9 - 4) 3).2]) = H6 at *
      refine ⟨small200 (by show 2 ≤ 200; decide), fun t4 n4 => ?_⟩
      have u4 := same_new (o := .tup [.ref t1, .ref t3]) n4
      have g4 : (upd H6 t4 (.tup [.ref t1, .ref t3])) t4 = some (.tup [.ref t1, .ref t3]) := upd_same
      generalize upd H6 t4 (.tup [.ref t1, .ref t3]) = H7 at *
      refine ⟨small200 (by show 1 ≤ 200; decide), fun l5 n5 => ?_⟩
      have u5 := same_new (o := .lst [.ref t4]) n5
      have g5 : (upd H7 l5 (.lst [.ref t4])) l5 = some (.lst [.ref t4]) := upd_same
      generalize upd H7 l5 (.lst [.ref t4]) = H8 at *
      have u25 := ((u2.trans u3).trans u4).trans u5
      refine ⟨c1, l5, _, _, rfl, rfl, u25 _ _ g1, g5, small200 (by show _ + 1 ≤ 200; rw [List.length_take]; omega), fun c6 n6 => ?_⟩
      have u6 := same_new (o := .lst (xs.take m ++ [.ref t4])) n6
      have g6 : (upd H8 c6 (.lst (xs.take m ++ [.ref t4]))) c6 = some (.lst (xs.take m ++ [.ref t4])) := upd_same
      generalize upd H8 c6 (.lst (xs.take m ++ [.ref t4])) = H9 at *
      have u39 := (u1.trans u25).trans u6
      refine ⟨_, rfl, _, rfl, _, _, rfl, rfl, r3 % n + 1, rfl, L, xs, rfl, .inl (.inl (u39 _ _ ex)), fun c7 n7 => ?_⟩
      have u7 := same_new (o := .lst (cutV xs (some (r3 % n + 1)) none)) n7
      have g7 : (upd H9 c7 (.lst (cutV xs (some (r3 % n + 1)) none))) c7 = some (.lst (xs.drop (m + 1))) := by rw [upd_same, em, show (m : Int) + 1 = ((m + 1 : Nat) : Int) by omega, cut_drop]
      generalize upd H9 c7 (.lst (cutV xs (some (r3 % n + 1)) none)) = H10 at *
      refine ⟨c6, c7, _, _, rfl, rfl, u7 _ _ g6, g7, small200 (by show _ + _ ≤ 200; rw [List.length_append, List.length_take, List.length_drop]; show min m _ + 1 + _ ≤ 200; omega), fun c8 n8 => ?_⟩
      have u8 := same_new (o := .lst (xs.take m ++ [.ref t4] ++ xs.drop (m + 1))) n8
      have u310 := (u39.trans u7).trans u8
      have w1 := (((u3.trans u4).trans u5).trans u6).trans (u7.trans u8)
      refine ⟨_, c8, ps.take m ++ [(((r4 % 9 - 4 : Int) : Rat), ((r4 / 9 % 9 - 4 : Int) : Rat) / ((3 : Int) : Rat))] ++ ps.drop (m + 1), rfl, s3.trans u310, ⟨_, upd_same, ?_⟩, ?_, ?_⟩
      · refine (All2.app (All2.app (All2.mono (hx.take m) fun _ _ h => h.mono u310) (.one ⟨t4, _, _, rfl, ((u5.trans u6).trans (u7.trans u8)) _ _ g4, ⟨t1, rfl, ?_⟩, ⟨t3, rfl, ?_⟩⟩)) (All2.mono (hx.drop (m + 1)) fun _ _ h => h.mono u310))
        · rw [frq_int]
          exact w1 _ _ g2
        · rw [← low_div (by decide)]
          exact (((u4.trans u5).trans u6).trans (u7.trans u8)) _ _ g3
      · rw [List.length_append, List.length_append, List.length_take, List.length_drop]
        show ((min m ps.length + 1 + (ps.length - (m + 1)) : Nat) : Int) = n
        omega
      · intro z hz
        rcases List.mem_append.mp hz with hz | hz
        · rcases List.mem_append.mp hz with hz | hz
          · exact hB z (List.mem_of_mem_take hz)
          · rw [List.mem_singleton.mp hz]
            refine ⟨(bq_int (b := 10) (by have := b9 r4; omega)).more (by decide) (by decide), ?_⟩
            exact (bq_div (s := 10) (k := 10) (t := r4 / 9 % 9 - 4) (b := 3) (by decide) (by have := b9 (r4 / 9); omega) (by decide)).more (by decide) (by decide)
        · exact hB z (List.mem_of_mem_drop hz)
    rintro _ H4 ⟨y4, L1, ps1, rfl, s4, hP1, hl1, hB1⟩
    clear hP hl hB
    refine ⟨fun σ' H' => ∃ L ps, σ' = [some (.ref a), some (.ref p), some (.int n), some (.ref L), y4, none, none, none, none, none, none, none, none, none] ∧ Same H2 H' ∧ PrsG K H' L ps ∧ (ps.length : Int) = n ∧ BdP ps, ?_, ?_⟩
    · refine ⟨_, rfl, p, _, _, _, rfl, rfl, hR2 s4, a2, _, _, rfl, rfl, (by show (0 : Int) < _; decide), rfl, _, rfl, ite2 (fun _ => ?_) (fun _ => iteF ⟨L1, ps1, rfl, s4, hP1, hl1, hB1⟩)⟩
      refine ⟨_, rfl, p, _, _, _, rfl, rfl, hR2 s4, a3, _, _, rfl, rfl, (by show (0 : Int) < _; decide), rfl, _, rfl, ite2 (fun _ => ?_) (fun _ => ⟨L1, ps1, rfl, s4, hP1, hl1, hB1⟩)⟩
      refine ⟨_, rfl, n, rfl, by omega, by omega, fun D hD => ?_⟩
      refine lc_range (lo := 0) (n := n.toNat) (fun i H' => Same H4 H' ∧ ∃ zs ps, H' D = some (.lst zs) ∧ All2 (Tw K H') zs ps ∧ zs.length = i ∧ BdP ps) ⟨same_new hD, [], [], upd_same, .nil, rfl, fun _ h => by cases h⟩ ?_ ?_
      · rintro i H' hi ⟨s6, zs, ps2, ez, hz, lz, hb⟩
        obtain ⟨z0, _, a0'⟩ := int_atN (rs := rs) (k := 30 + i) (by omega)
        have e0 : (30 : Int) + (0 + (i : Int)) = ((30 + i : Nat) : Int) := by omega
        rw [← e0] at a0'
        refine ⟨rfl, yes_read ?_⟩
        refine ⟨_, rfl, _, rfl, _, _, rfl, rfl, p, _, _, _, rfl, rfl, hR2 (s4.trans s6), a0', _, _, rfl, rfl, (by show (0 : Int) < _; decide), _, _, rfl, rfl, small200 (by show 2 ≤ 200; decide), fun t1 n1 => ?_⟩
        have u1 := same_new (o := .tup [.int (z0 % 7 - 3), .int 1]) n1
        have g1 : (upd H' t1 (.tup [.int (z0 % 7 - 3), .int 1])) t1 = some (.tup [.int (z0 % 7 - 3), .int 1]) := upd_same
        generalize upd H' t1 (.tup [.int (z0 % 7 - 3), .int 1]) = H6 at *
        refine ⟨_, rfl, _, rfl, _, _, rfl, rfl, p, _, _, _, rfl, rfl, hR2 ((s4.trans s6).trans u1), a0', _, _, rfl, rfl, ⟨by decide, by decide⟩, _, _, rfl, rfl, (by show (0 : Int) < _; decide), _, _, rfl, rfl, small200 (by show 2 ≤ 200; decide), fun t2 n2 => ?_⟩
        have u2 := same_new (o := .tup [.int (z0 / 7 % 7 - 3), .int 1]) n2
        have g2 : (upd H6 t2 (.tup [.int (z0 / 7 % 7 - 3), .int 1])) t2 = some (.tup [.int (z0 / 7 % 7 - 3), .int 1]) := upd_same
        generalize upd H6 t2 (.tup [.int (z0 / 7 % 7 - 3), .int 1]) = H7 at *
        refine ⟨small200 (by show 2 ≤ 200; decide), fun t3 n3 => ?_⟩
        have u3 := same_new (o := .tup [.ref t1, .ref t2]) n3
        have g3 : (upd H7 t3 (.tup [.ref t1, .ref t2])) t3 = some (.tup [.ref t1, .ref t2]) := upd_same
        generalize upd H7 t3 (.tup [.ref t1, .ref t2]) = H8 at *
        have u13 := (u1.trans u2).trans u3
        have ez8 := u13 _ _ ez
        have tsD := TupS.put (o := .lst (zs ++ [.ref t3])) ez8
        refine ⟨zs, ez8, small200' (by omega), same_put (s6.trans u13) hD, _, ps2 ++ [(((z0 % 7 - 3 : Int) : Rat), ((z0 / 7 % 7 - 3 : Int) : Rat))], upd_same, ?_, by rw [List.length_append, lz]; rfl, fun z hz' => ?_⟩
        · refine (All2.mono hz fun _ _ h => (h.mono u13).tups tsD).app (.one ⟨t3, _, _, rfl, tsD _ _ g3, ⟨t1, rfl, ?_⟩, ⟨t2, rfl, ?_⟩⟩)
          · rw [frq_int]
            exact tsD _ _ ((u2.trans u3) _ _ g1)
          · rw [frq_int]
            exact tsD _ _ (u3 _ _ g2)
        · rcases List.mem_append.mp hz' with hz' | hz'
          · exact hb z hz'
          · rw [List.mem_singleton.mp hz']
            exact ⟨(bq_int (b := 10) (by have := b7 z0; omega)).more (by decide) (by decide), (bq_int (b := 10) (by have := b7 (z0 / 7); omega)).more (by decide) (by decide)⟩
      · rintro H' ⟨s6, zs, ps2, ez, hz, lz, hb⟩
        exact ⟨D, ps2, rfl, s4.trans s6, ⟨zs, ez, hz⟩, by have := hz.length; omega, hb⟩
    rintro _ H5 ⟨L, ps, rfl, s5, hP, hl, hB⟩
    clear hP1 hl1 hB1
    refine ⟨_, rfl, L, ps, rfl, by omega, hP, hB, fun H6 dv s6 hdv => ?_⟩
    obtain ⟨xs, ex, hx⟩ := id (hP.mono s6)
    have lx := hx.length
    refine ⟨_, rfl, L, xs, rfl, .inl (.inl (.inl ex)), fun D hD => ?_⟩
    have s7 := same_new (o := .lst xs) hD
    have g7 : (upd H6 D (.lst xs)) D = some (.lst xs) := upd_same
    generalize upd H6 D (.lst xs) = H7 at *
    have hx7 : All2 (Tw K H7) xs ps := All2.mono hx fun _ _ h => h.mono s7
    have ex7 := s7 _ _ ex
    refine ⟨_, rfl, D, ps, rfl, by omega, by omega, ⟨xs, g7, hx7⟩, hB, fun ha H8 R s8 hR8 => ?_, fun c d F1 H8 t e s8 e8 e9 => ?_⟩
    · rcases hdv with ⟨rfl, ha'⟩ | ⟨t2, c, d, rfl, F2', e2'⟩
      · refine ⟨_, rfl, _, rfl, rfl, rfl, _, rfl, iteF ?_⟩
        have hx8 : All2 (Tw K H8) xs ps := All2.mono hx7 fun _ _ h => h.mono s8
        refine ⟨_, rfl, _, rfl, _, _, .lst (.inl (.inl (s8 _ _ g7))) (prs_dp hx8), .lst (.inl (.inl (s8 _ _ ex7))) (prs_dp hx8), dz_sh ps, dz_sh ps, ?_⟩
        rw [SeqAt.eqv_refl _ (SeqAt.canLay_of_shaped (dz_sh ps))]
        refine ⟨_, rfl, iteF ?_⟩
        refine ⟨_, rfl, _, rfl, iteF ?_⟩
        refine ⟨_, rfl, n, rfl, by omega, by omega, fun D2 hD2 => ?_⟩
        refine lc_range (lo := 0) (n := n.toNat) (fun i H' => ∃ hs, RowsI K H8 H' D2 hs n.toNat (gP ps) ∧ hs.length = i) ⟨[], RowsI.nil (same_new hD2) upd_same hD2, rfl⟩ ?_ ?_
        · rintro i H' hi ⟨hs, hI, hhl⟩
          refine ⟨rfl, yes_read ?_⟩
          refine ⟨_, rfl, n, rfl, by omega, by omega, fun r hr2 => ?_⟩
          have hrH : H8 r = none := by
            cases e : H8 r with
            | none => rfl
            | some o => rw [hI.s _ _ e] at hr2; cases hr2
          have nrs : r ∉ hs := fun hm => by
            obtain ⟨j, hj⟩ := List.getElem?_of_mem hm
            obtain ⟨zs, e, _⟩ := hI.row j r hj
            rw [e] at hr2
            cases hr2
          have nrD : r ≠ D2 := fun e => by
            rw [e, hI.top] at hr2
            cases hr2
          refine lc_range (lo := 0) (n := n.toNat) (fun j H6 => Same H' H6 ∧ ∃ ys : List V, H6 r = some (.lst ys) ∧ ys.length = j ∧ ∀ k x, ys[k]? = some x → PrAt K H6 x (frq (gP ps i k))) ⟨same_new hr2, [], upd_same, rfl, fun k x h => nomatch h⟩ ?_ ?_
          · rintro j H9 hj ⟨s9, ys, hy, hyl, hq9⟩
            refine ⟨rfl, yes_read ?_⟩
            have s79 := (s8.trans hI.s).trans s9
            obtain ⟨xa, exa, ta, ua, va, rfl, eta, hua, hva⟩ := hx7.at' (pp_at (show min i j < ps.length by omega))
            obtain ⟨xb, exb, tb, ub, vb, rfl, etb, hub, hvb⟩ := hx7.at' (pp_at (show max i j < ps.length by omega))
            have bda := hB.at (show min i j < ps.length by omega)
            have bdb := hB.at (show max i j < ps.length by omega)
            have emin : (if (0 : Int) + (j : Int) < 0 + (i : Int) then (0 : Int) + (j : Int) else 0 + (i : Int)) = ((min i j : Nat) : Int) := by split <;> omega
            have emax : (if (0 : Int) + (j : Int) > 0 + (i : Int) then (0 : Int) + (j : Int) else 0 + (i : Int)) = ((max i j : Nat) : Int) := by split <;> omega
            refine ⟨_, rfl, _, rfl, _, rfl, _, _, rfl, L, _, _, _, rfl, rfl, .inl (.inl (s79 _ _ ex7)), (by rw [emin]; exact atI_nat exa), _, rfl, _, rfl, _, rfl, _, _, rfl, L, _, _, _, rfl, rfl, .inl (.inl (s79 _ _ ex7)), (by rw [emax]; exact atI_nat exb), ta, tb, ua, va, ub, vb, _, _, _, _, rfl, s79 _ _ eta, s79 _ _ etb, (hua.mono s79).s, (hva.mono s79).s, (hub.mono s79).s, (hvb.mono s79).s, bda.1, bda.2, bdb.1, bdb.2, fun H10 x10 s10 hx10 => ?_⟩
            have hx10 : PrAt K H10 x10 (frq (Wp ps (min i j) (max i j))) := hx10
            rw [gP_mm] at hx10
            have hy10 := s10 _ _ hy
            have ts := TupS.put (o := .lst (ys ++ [x10])) hy10
            refine ⟨ys, hy10, small200' (by omega), same_put (s9.trans s10) hr2, _, upd_same, by simp [hyl], fun k x' hk => ?_⟩
            by_cases c : k < ys.length
            · rw [List.getElem?_append_left c] at hk
              exact ((hq9 k x' hk).mono s10).tups ts
            · have hkl := (List.getElem?_eq_some_iff.mp hk).1
              rw [List.length_append, List.length_singleton] at hkl
              have ek : k = ys.length := by omega
              subst ek
              rw [List.getElem?_concat_length] at hk
              obtain rfl := Option.some.inj hk
              rw [hyl]
              exact hx10.tups ts
          · rintro H9 ⟨s9, ys, hy, hyl, hq9⟩
            have hI9 := hI.mono s9
            refine ⟨_, hI9.top, small200' (by rw [List.length_map]; omega), hs ++ [r], hI9.more hrH hy nrs nrD hyl (fun k x hk => ?_), by simp [hhl]⟩
            rw [hhl]
            exact hq9 k x hk
        · rintro H9 ⟨hs, hI, hhl⟩
          have en : n.toNat = ps.length := by omega
          have hg : ∀ i k, i < ps.length → k < ps.length → gP ps i k = gP ps i k ∧ (frq (gP ps i k)).2.natAbs.log2 < 9000 := fun i k hi hk => ⟨rfl, (gP_tab hB ha).bits hi hk⟩
          have hV := hI.view hhl
          rw [en] at hV
          refine ⟨_, rfl, _, rfl, R, D2, ps.length, gP ps, gP ps, rfl, by omega, (hR8.mono hI.s).v, hV, hg, fun H10 s10 => ?_⟩
          refine ⟨_, rfl, iteT ?_⟩
          refine ⟨_, rfl, R, ps.length, gP ps, rfl, by omega, by omega, (hR8.mono hI.s).mono s10, gP_tab hB ha, fun H11 fv s11 hfv => ?_⟩
          rcases hfv with ⟨rfl, _⟩ | ⟨t1, c1, d1, rfl, F1', _⟩
          · exact ⟨rfl, q H11⟩
          · exact absurd (gP_no ps _) F1'.not
      · exact absurd ha F2'.not
    · rcases hdv with ⟨rfl, ha'⟩ | ⟨t2, c', d', rfl, F2', e2'⟩
      · exact absurd ha' F1.not
      · obtain ⟨rfl, rfl⟩ := F1.uni F2'
        refine ⟨true, PySem.W.exm_ref T.bs_BadPairs T.e_BadPairs.hd T.ty_BadPairs T.sub_BadPairs_BadPairs, fun _ x hx' => ?_, fun z => nomatch z⟩
        refine ⟨_, rfl, rfl, rfl, e, _, _, rfl, e9, rfl, ?_⟩
        refine ⟨_, rfl, _, rfl, rfl, rfl, _, rfl, iteF ?_⟩
        have hx8 : All2 (Tw K H8) xs ps := All2.mono hx7 fun _ _ h => h.mono s8
        refine ⟨_, rfl, _, rfl, _, _, .lst (.inl (.inl (s8 _ _ g7))) (prs_dp hx8), .lst (.inl (.inl (s8 _ _ ex7))) (prs_dp hx8), dz_sh ps, dz_sh ps, ?_⟩
        rw [SeqAt.eqv_refl _ (SeqAt.canLay_of_shaped (dz_sh ps))]
        refine ⟨_, rfl, iteF ?_⟩
        refine ⟨_, rfl, _, rfl, iteT ?_⟩
        refine ⟨_, rfl, .ref t, [(c : Int), (d : Int)], rfl, two_tup e8, by show 2 ≤ 100; decide, ?_⟩
        refine ⟨_, rfl, iteT ?_⟩
        refine ⟨_, rfl, _, rfl, _, _, two_dp e8, two_dp (s8 _ _ (s7 _ _ e2')), rfl, rfl, ?_⟩
        rw [SeqAt.eqv_refl _ (by rfl)]
        exact q H8

theorem all_mk {P : Program} (su : SupP flM P) {w : World} {K : PySem.W.Frag} {h : Heap} {mg : Str → Option Value} {fa : Addr} (X : K.In h) (G : h.Ns mainGlobals mg) (hfa : mg "law" = some (.ref fa)) (c0 : obsM K = valM)
    : ∃ fd : FuncData, (∀ (s : Shared) (v : Value), BindsTo s fd ⟨[v], []⟩ [("_law_script", v)]) ∧ ∀ base : Heap, K.In base → base.Ns mainGlobals mg → FnOk P w K mg base CX0 12 fa fd ["_law_script"] (sp_law K) := by
  have c : falM.map (fun f => f K) = falM.map (fun _ => true) ∧ fnlM.map (fun d => He.fnObs K d.at_) = fnlM.map He.FnD.val := ⟨congrArg Prod.fst c0, congrArg (fun z : SayT => z.2.2) c0⟩
  have c3 : suM.map (fun p => supObs K (He.ga K p.1)) = suM.map (fun p => p.2) := congrArg (fun z : SayT => z.2.1) c0
  have e := hfa.symm.trans (PySem.W.mg_of X G (He.eqO_ok (fctM c.1 (f := faM159) (j := 159) rfl)))
  cases e
  obtain ⟨oc_BadPairs___init__, od_BadPairs___init__, an_BadPairs___init__, osl_BadPairs___init__, kV_BadPairs___init__, doc_BadPairs___init__, pm_BadPairs___init__, ct_BadPairs___init__, cda_BadPairs___init__, cc_BadPairs___init__, lk_BadPairs___init__⟩ := sup_mk (C := (He.ga K "BadPairs")) (show supObs K (He.ga K "BadPairs") = suD_BadPairs from supM_at c3 (j := 0) (p := ("BadPairs", suD_BadPairs)) rfl) (fctM c.1 (f := faM48) (j := 48) rfl)
  obtain ⟨oc_lowest, od_lowest, osl_lowest, kV_lowest, doc_lowest, pm_lowest, an_lowest, cd_lowest, ct_lowest, l_lowest, c_lowest⟩ := He.fn_ok (d := dM_lowest) (fntM c.2 (d := dM_lowest) (j := 0) rfl) (fctM c.1 (f := faM60) (j := 60) rfl)
  have l1_lowest : K.lookup (He.ga K "lowest") = some ⟨oc_lowest, od_lowest, .func (PySem.W.fnOf "lowest" "lowest" (defArgs s_lowest) (defBody s_lowest) (defScope s_lowest) .none kV_lowest doc_lowest pm_lowest an_lowest cd_lowest ct_lowest), osl_lowest⟩ := l_lowest
  have F_lowest := fun_mk (st := s_lowest) l1_lowest c_lowest (fctM c.1 (f := faM59) (j := 59) rfl)
  obtain ⟨oc_less, od_less, osl_less, kV_less, doc_less, pm_less, an_less, cd_less, ct_less, l_less, c_less⟩ := He.fn_ok (d := dM_less) (fntM c.2 (d := dM_less) (j := 1) rfl) (fctM c.1 (f := faM63) (j := 63) rfl)
  have l1_less : K.lookup (He.ga K "less") = some ⟨oc_less, od_less, .func (PySem.W.fnOf "less" "less" (defArgs s_less) (defBody s_less) (defScope s_less) .none kV_less doc_less pm_less an_less cd_less ct_less), osl_less⟩ := l_less
  have F_less := fun_mk (st := s_less) l1_less c_less (fctM c.1 (f := faM62) (j := 62) rfl)
  obtain ⟨oc_times, od_times, osl_times, kV_times, doc_times, pm_times, an_times, cd_times, ct_times, l_times, c_times⟩ := He.fn_ok (d := dM_times) (fntM c.2 (d := dM_times) (j := 2) rfl) (fctM c.1 (f := faM66) (j := 66) rfl)
  have l1_times : K.lookup (He.ga K "times") = some ⟨oc_times, od_times, .func (PySem.W.fnOf "times" "times" (defArgs s_times) (defBody s_times) (defScope s_times) .none kV_times doc_times pm_times an_times cd_times ct_times), osl_times⟩ := l_times
  have F_times := fun_mk (st := s_times) l1_times c_times (fctM c.1 (f := faM65) (j := 65) rfl)
  obtain ⟨oc_is_part, od_is_part, osl_is_part, kV_is_part, doc_is_part, pm_is_part, an_is_part, cd_is_part, ct_is_part, l_is_part, c_is_part⟩ := He.fn_ok (d := dM_is_part) (fntM c.2 (d := dM_is_part) (j := 3) rfl) (fctM c.1 (f := faM69) (j := 69) rfl)
  have l1_is_part : K.lookup (He.ga K "is_part") = some ⟨oc_is_part, od_is_part, .func (PySem.W.fnOf "is_part" "is_part" (defArgs s_is_part) (defBody s_is_part) (defScope s_is_part) .none kV_is_part doc_is_part pm_is_part an_is_part cd_is_part ct_is_part), osl_is_part⟩ := l_is_part
  have F_is_part := fun_mk (st := s_is_part) l1_is_part c_is_part (fctM c.1 (f := faM68) (j := 68) rfl)
  obtain ⟨oc_is_length, od_is_length, osl_is_length, kV_is_length, doc_is_length, pm_is_length, an_is_length, cd_is_length, ct_is_length, l_is_length, c_is_length⟩ := He.fn_ok (d := dM_is_length) (fntM c.2 (d := dM_is_length) (j := 4) rfl) (fctM c.1 (f := faM72) (j := 72) rfl)
  have l1_is_length : K.lookup (He.ga K "is_length") = some ⟨oc_is_length, od_is_length, .func (PySem.W.fnOf "is_length" "is_length" (defArgs s_is_length) (defBody s_is_length) (defScope s_is_length) .none kV_is_length doc_is_length pm_is_length an_is_length cd_is_length ct_is_length), osl_is_length⟩ := l_is_length
  have F_is_length := fun_mk (st := s_is_length) l1_is_length c_is_length (fctM c.1 (f := faM71) (j := 71) rfl)
  obtain ⟨oc_looked, od_looked, osl_looked, kV_looked, doc_looked, pm_looked, an_looked, cd_looked, ct_looked, l_looked, c_looked⟩ := He.fn_ok (d := dM_looked) (fntM c.2 (d := dM_looked) (j := 5) rfl) (fctM c.1 (f := faM75) (j := 75) rfl)
  have l1_looked : K.lookup (He.ga K "looked") = some ⟨oc_looked, od_looked, .func (PySem.W.fnOf "looked" "looked" (defArgs s_looked) (defBody s_looked) (defScope s_looked) .none kV_looked doc_looked pm_looked an_looked cd_looked ct_looked), osl_looked⟩ := l_looked
  have F_looked := fun_mk (st := s_looked) l1_looked c_looked (fctM c.1 (f := faM74) (j := 74) rfl)
  obtain ⟨oc_is_twin_length, od_is_twin_length, osl_is_twin_length, kV_is_twin_length, doc_is_twin_length, pm_is_twin_length, an_is_twin_length, cd_is_twin_length, ct_is_twin_length, l_is_twin_length, c_is_twin_length⟩ := He.fn_ok (d := dM_is_twin_length) (fntM c.2 (d := dM_is_twin_length) (j := 6) rfl) (fctM c.1 (f := faM78) (j := 78) rfl)
  have l1_is_twin_length : K.lookup (He.ga K "is_twin_length") = some ⟨oc_is_twin_length, od_is_twin_length, .func (PySem.W.fnOf "is_twin_length" "is_twin_length" (defArgs s_is_twin_length) (defBody s_is_twin_length) (defScope s_is_twin_length) .none kV_is_twin_length doc_is_twin_length pm_is_twin_length an_is_twin_length cd_is_twin_length ct_is_twin_length), osl_is_twin_length⟩ := l_is_twin_length
  have F_is_twin_length := fun_mk (st := s_is_twin_length) l1_is_twin_length c_is_twin_length (fctM c.1 (f := faM77) (j := 77) rfl)
  obtain ⟨oc_broken, od_broken, osl_broken, kV_broken, doc_broken, pm_broken, an_broken, cd_broken, ct_broken, l_broken, c_broken⟩ := He.fn_ok (d := dM_broken) (fntM c.2 (d := dM_broken) (j := 7) rfl) (fctM c.1 (f := faM81) (j := 81) rfl)
  have l1_broken : K.lookup (He.ga K "broken") = some ⟨oc_broken, od_broken, .func (PySem.W.fnOf "broken" "broken" (defArgs s_broken) (defBody s_broken) (defScope s_broken) .none kV_broken doc_broken pm_broken an_broken cd_broken ct_broken), osl_broken⟩ := l_broken
  have F_broken := fun_mk (st := s_broken) l1_broken c_broken (fctM c.1 (f := faM80) (j := 80) rfl)
  obtain ⟨oc_keeps_rule, od_keeps_rule, osl_keeps_rule, kV_keeps_rule, doc_keeps_rule, pm_keeps_rule, an_keeps_rule, cd_keeps_rule, ct_keeps_rule, l_keeps_rule, c_keeps_rule⟩ := He.fn_ok (d := dM_keeps_rule) (fntM c.2 (d := dM_keeps_rule) (j := 8) rfl) (fctM c.1 (f := faM84) (j := 84) rfl)
  have l1_keeps_rule : K.lookup (He.ga K "keeps_rule") = some ⟨oc_keeps_rule, od_keeps_rule, .func (PySem.W.fnOf "keeps_rule" "keeps_rule" (defArgs s_keeps_rule) (defBody s_keeps_rule) (defScope s_keeps_rule) .none kV_keeps_rule doc_keeps_rule pm_keeps_rule an_keeps_rule cd_keeps_rule ct_keeps_rule), osl_keeps_rule⟩ := l_keeps_rule
  have F_keeps_rule := fun_mk (st := s_keeps_rule) l1_keeps_rule c_keeps_rule (fctM c.1 (f := faM83) (j := 83) rfl)
  obtain ⟨oc_multiplied, od_multiplied, osl_multiplied, kV_multiplied, doc_multiplied, pm_multiplied, an_multiplied, cd_multiplied, ct_multiplied, l_multiplied, c_multiplied⟩ := He.fn_ok (d := dM_multiplied) (fntM c.2 (d := dM_multiplied) (j := 9) rfl) (fctM c.1 (f := faM87) (j := 87) rfl)
  have l1_multiplied : K.lookup (He.ga K "multiplied") = some ⟨oc_multiplied, od_multiplied, .func (PySem.W.fnOf "multiplied" "multiplied" (defArgs s_multiplied) (defBody s_multiplied) (defScope s_multiplied) .none kV_multiplied doc_multiplied pm_multiplied an_multiplied cd_multiplied ct_multiplied), osl_multiplied⟩ := l_multiplied
  have F_multiplied := fun_mk (st := s_multiplied) l1_multiplied c_multiplied (fctM c.1 (f := faM86) (j := 86) rfl)
  obtain ⟨oc_of_pairs, od_of_pairs, osl_of_pairs, kV_of_pairs, doc_of_pairs, pm_of_pairs, an_of_pairs, cd_of_pairs, ct_of_pairs, l_of_pairs, c_of_pairs⟩ := He.fn_ok (d := dM_of_pairs) (fntM c.2 (d := dM_of_pairs) (j := 10) rfl) (fctM c.1 (f := faM90) (j := 90) rfl)
  have l1_of_pairs : K.lookup (He.ga K "of_pairs") = some ⟨oc_of_pairs, od_of_pairs, .func (PySem.W.fnOf "of_pairs" "of_pairs" (defArgs s_of_pairs) (defBody s_of_pairs) (defScope s_of_pairs) .none kV_of_pairs doc_of_pairs pm_of_pairs an_of_pairs cd_of_pairs ct_of_pairs), osl_of_pairs⟩ := l_of_pairs
  have F_of_pairs := fun_mk (st := s_of_pairs) l1_of_pairs c_of_pairs (fctM c.1 (f := faM89) (j := 89) rfl)
  obtain ⟨oc_spread, od_spread, osl_spread, kV_spread, doc_spread, pm_spread, an_spread, cd_spread, ct_spread, l_spread, c_spread⟩ := He.fn_ok (d := dM_spread) (fntM c.2 (d := dM_spread) (j := 11) rfl) (fctM c.1 (f := faM93) (j := 93) rfl)
  have l1_spread : K.lookup (He.ga K "spread") = some ⟨oc_spread, od_spread, .func (PySem.W.fnOf "spread" "spread" (defArgs s_spread) (defBody s_spread) (defScope s_spread) .none kV_spread doc_spread pm_spread an_spread cd_spread ct_spread), osl_spread⟩ := l_spread
  have F_spread := fun_mk (st := s_spread) l1_spread c_spread (fctM c.1 (f := faM92) (j := 92) rfl)
  obtain ⟨oc__law_flow, od__law_flow, osl__law_flow, kV__law_flow, doc__law_flow, pm__law_flow, an__law_flow, cd__law_flow, ct__law_flow, l__law_flow, c__law_flow⟩ := He.fn_ok (d := dM__law_flow) (fntM c.2 (d := dM__law_flow) (j := 12) rfl) (fctM c.1 (f := faM96) (j := 96) rfl)
  have l1__law_flow : K.lookup (He.ga K "_law_flow") = some ⟨oc__law_flow, od__law_flow, .func (PySem.W.fnOf "_law_flow" "_law_flow" (defArgs s__law_flow) (defBody s__law_flow) (defScope s__law_flow) .none kV__law_flow doc__law_flow pm__law_flow an__law_flow cd__law_flow ct__law_flow), osl__law_flow⟩ := l__law_flow
  have F__law_flow := fun_mk (st := s__law_flow) l1__law_flow c__law_flow (fctM c.1 (f := faM95) (j := 95) rfl)
  obtain ⟨oc__law_whole, od__law_whole, osl__law_whole, kV__law_whole, doc__law_whole, pm__law_whole, an__law_whole, cd__law_whole, ct__law_whole, l__law_whole, c__law_whole⟩ := He.fn_ok (d := dM__law_whole) (fntM c.2 (d := dM__law_whole) (j := 13) rfl) (fctM c.1 (f := faM99) (j := 99) rfl)
  have l1__law_whole : K.lookup (He.ga K "_law_whole") = some ⟨oc__law_whole, od__law_whole, .func (PySem.W.fnOf "_law_whole" "_law_whole" (defArgs s__law_whole) (defBody s__law_whole) (defScope s__law_whole) .none kV__law_whole doc__law_whole pm__law_whole an__law_whole cd__law_whole ct__law_whole), osl__law_whole⟩ := l__law_whole
  have F__law_whole := fun_mk (st := s__law_whole) l1__law_whole c__law_whole (fctM c.1 (f := faM98) (j := 98) rfl)
  obtain ⟨oc__law_low, od__law_low, osl__law_low, kV__law_low, doc__law_low, pm__law_low, an__law_low, cd__law_low, ct__law_low, l__law_low, c__law_low⟩ := He.fn_ok (d := dM__law_low) (fntM c.2 (d := dM__law_low) (j := 14) rfl) (fctM c.1 (f := faM102) (j := 102) rfl)
  have l1__law_low : K.lookup (He.ga K "_law_low") = some ⟨oc__law_low, od__law_low, .func (PySem.W.fnOf "_law_low" "_law_low" (defArgs s__law_low) (defBody s__law_low) (defScope s__law_low) .none kV__law_low doc__law_low pm__law_low an__law_low cd__law_low ct__law_low), osl__law_low⟩ := l__law_low
  have F__law_low := fun_mk (st := s__law_low) l1__law_low c__law_low (fctM c.1 (f := faM101) (j := 101) rfl)
  obtain ⟨oc__law_add, od__law_add, osl__law_add, kV__law_add, doc__law_add, pm__law_add, an__law_add, cd__law_add, ct__law_add, l__law_add, c__law_add⟩ := He.fn_ok (d := dM__law_add) (fntM c.2 (d := dM__law_add) (j := 15) rfl) (fctM c.1 (f := faM105) (j := 105) rfl)
  have l1__law_add : K.lookup (He.ga K "_law_add") = some ⟨oc__law_add, od__law_add, .func (PySem.W.fnOf "_law_add" "_law_add" (defArgs s__law_add) (defBody s__law_add) (defScope s__law_add) .none kV__law_add doc__law_add pm__law_add an__law_add cd__law_add ct__law_add), osl__law_add⟩ := l__law_add
  have F__law_add := fun_mk (st := s__law_add) l1__law_add c__law_add (fctM c.1 (f := faM104) (j := 104) rfl)
  obtain ⟨oc__law_mul, od__law_mul, osl__law_mul, kV__law_mul, doc__law_mul, pm__law_mul, an__law_mul, cd__law_mul, ct__law_mul, l__law_mul, c__law_mul⟩ := He.fn_ok (d := dM__law_mul) (fntM c.2 (d := dM__law_mul) (j := 16) rfl) (fctM c.1 (f := faM108) (j := 108) rfl)
  have l1__law_mul : K.lookup (He.ga K "_law_mul") = some ⟨oc__law_mul, od__law_mul, .func (PySem.W.fnOf "_law_mul" "_law_mul" (defArgs s__law_mul) (defBody s__law_mul) (defScope s__law_mul) .none kV__law_mul doc__law_mul pm__law_mul an__law_mul cd__law_mul ct__law_mul), osl__law_mul⟩ := l__law_mul
  have F__law_mul := fun_mk (st := s__law_mul) l1__law_mul c__law_mul (fctM c.1 (f := faM107) (j := 107) rfl)
  obtain ⟨oc__law_part, od__law_part, osl__law_part, kV__law_part, doc__law_part, pm__law_part, an__law_part, cd__law_part, ct__law_part, l__law_part, c__law_part⟩ := He.fn_ok (d := dM__law_part) (fntM c.2 (d := dM__law_part) (j := 17) rfl) (fctM c.1 (f := faM111) (j := 111) rfl)
  have l1__law_part : K.lookup (He.ga K "_law_part") = some ⟨oc__law_part, od__law_part, .func (PySem.W.fnOf "_law_part" "_law_part" (defArgs s__law_part) (defBody s__law_part) (defScope s__law_part) .none kV__law_part doc__law_part pm__law_part an__law_part cd__law_part ct__law_part), osl__law_part⟩ := l__law_part
  have F__law_part := fun_mk (st := s__law_part) l1__law_part c__law_part (fctM c.1 (f := faM110) (j := 110) rfl)
  obtain ⟨oc__law_size, od__law_size, osl__law_size, kV__law_size, doc__law_size, pm__law_size, an__law_size, cd__law_size, ct__law_size, l__law_size, c__law_size⟩ := He.fn_ok (d := dM__law_size) (fntM c.2 (d := dM__law_size) (j := 18) rfl) (fctM c.1 (f := faM114) (j := 114) rfl)
  have l1__law_size : K.lookup (He.ga K "_law_size") = some ⟨oc__law_size, od__law_size, .func (PySem.W.fnOf "_law_size" "_law_size" (defArgs s__law_size) (defBody s__law_size) (defScope s__law_size) .none kV__law_size doc__law_size pm__law_size an__law_size cd__law_size ct__law_size), osl__law_size⟩ := l__law_size
  have F__law_size := fun_mk (st := s__law_size) l1__law_size c__law_size (fctM c.1 (f := faM113) (j := 113) rfl)
  obtain ⟨oc__law_many, od__law_many, osl__law_many, kV__law_many, doc__law_many, pm__law_many, an__law_many, cd__law_many, ct__law_many, l__law_many, c__law_many⟩ := He.fn_ok (d := dM__law_many) (fntM c.2 (d := dM__law_many) (j := 19) rfl) (fctM c.1 (f := faM117) (j := 117) rfl)
  have l1__law_many : K.lookup (He.ga K "_law_many") = some ⟨oc__law_many, od__law_many, .func (PySem.W.fnOf "_law_many" "_law_many" (defArgs s__law_many) (defBody s__law_many) (defScope s__law_many) .none kV__law_many doc__law_many pm__law_many an__law_many cd__law_many ct__law_many), osl__law_many⟩ := l__law_many
  have F__law_many := fun_mk (st := s__law_many) l1__law_many c__law_many (fctM c.1 (f := faM116) (j := 116) rfl)
  obtain ⟨oc__law_spread, od__law_spread, osl__law_spread, kV__law_spread, doc__law_spread, pm__law_spread, an__law_spread, cd__law_spread, ct__law_spread, l__law_spread, c__law_spread⟩ := He.fn_ok (d := dM__law_spread) (fntM c.2 (d := dM__law_spread) (j := 20) rfl) (fctM c.1 (f := faM120) (j := 120) rfl)
  have l1__law_spread : K.lookup (He.ga K "_law_spread") = some ⟨oc__law_spread, od__law_spread, .func (PySem.W.fnOf "_law_spread" "_law_spread" (defArgs s__law_spread) (defBody s__law_spread) (defScope s__law_spread) .none kV__law_spread doc__law_spread pm__law_spread an__law_spread cd__law_spread ct__law_spread), osl__law_spread⟩ := l__law_spread
  have F__law_spread := fun_mk (st := s__law_spread) l1__law_spread c__law_spread (fctM c.1 (f := faM119) (j := 119) rfl)
  obtain ⟨oc__law_tuple, od__law_tuple, osl__law_tuple, kV__law_tuple, doc__law_tuple, pm__law_tuple, an__law_tuple, cd__law_tuple, ct__law_tuple, l__law_tuple, c__law_tuple⟩ := He.fn_ok (d := dM__law_tuple) (fntM c.2 (d := dM__law_tuple) (j := 21) rfl) (fctM c.1 (f := faM123) (j := 123) rfl)
  have l1__law_tuple : K.lookup (He.ga K "_law_tuple") = some ⟨oc__law_tuple, od__law_tuple, .func (PySem.W.fnOf "_law_tuple" "_law_tuple" (defArgs s__law_tuple) (defBody s__law_tuple) (defScope s__law_tuple) .none kV__law_tuple doc__law_tuple pm__law_tuple an__law_tuple cd__law_tuple ct__law_tuple), osl__law_tuple⟩ := l__law_tuple
  have F__law_tuple := fun_mk (st := s__law_tuple) l1__law_tuple c__law_tuple (fctM c.1 (f := faM122) (j := 122) rfl)
  obtain ⟨oc__law_parts, od__law_parts, osl__law_parts, kV__law_parts, doc__law_parts, pm__law_parts, an__law_parts, cd__law_parts, ct__law_parts, l__law_parts, c__law_parts⟩ := He.fn_ok (d := dM__law_parts) (fntM c.2 (d := dM__law_parts) (j := 22) rfl) (fctM c.1 (f := faM126) (j := 126) rfl)
  have l1__law_parts : K.lookup (He.ga K "_law_parts") = some ⟨oc__law_parts, od__law_parts, .func (PySem.W.fnOf "_law_parts" "_law_parts" (defArgs s__law_parts) (defBody s__law_parts) (defScope s__law_parts) .none kV__law_parts doc__law_parts pm__law_parts an__law_parts cd__law_parts ct__law_parts), osl__law_parts⟩ := l__law_parts
  have F__law_parts := fun_mk (st := s__law_parts) l1__law_parts c__law_parts (fctM c.1 (f := faM125) (j := 125) rfl)
  obtain ⟨oc__law_table, od__law_table, osl__law_table, kV__law_table, doc__law_table, pm__law_table, an__law_table, cd__law_table, ct__law_table, l__law_table, c__law_table⟩ := He.fn_ok (d := dM__law_table) (fntM c.2 (d := dM__law_table) (j := 23) rfl) (fctM c.1 (f := faM129) (j := 129) rfl)
  have l1__law_table : K.lookup (He.ga K "_law_table") = some ⟨oc__law_table, od__law_table, .func (PySem.W.fnOf "_law_table" "_law_table" (defArgs s__law_table) (defBody s__law_table) (defScope s__law_table) .none kV__law_table doc__law_table pm__law_table an__law_table cd__law_table ct__law_table), osl__law_table⟩ := l__law_table
  have F__law_table := fun_mk (st := s__law_table) l1__law_table c__law_table (fctM c.1 (f := faM128) (j := 128) rfl)
  obtain ⟨oc__law_drawn, od__law_drawn, osl__law_drawn, kV__law_drawn, doc__law_drawn, pm__law_drawn, an__law_drawn, cd__law_drawn, ct__law_drawn, l__law_drawn, c__law_drawn⟩ := He.fn_ok (d := dM__law_drawn) (fntM c.2 (d := dM__law_drawn) (j := 24) rfl) (fctM c.1 (f := faM132) (j := 132) rfl)
  have l1__law_drawn : K.lookup (He.ga K "_law_drawn") = some ⟨oc__law_drawn, od__law_drawn, .func (PySem.W.fnOf "_law_drawn" "_law_drawn" (defArgs s__law_drawn) (defBody s__law_drawn) (defScope s__law_drawn) .none kV__law_drawn doc__law_drawn pm__law_drawn an__law_drawn cd__law_drawn ct__law_drawn), osl__law_drawn⟩ := l__law_drawn
  have F__law_drawn := fun_mk (st := s__law_drawn) l1__law_drawn c__law_drawn (fctM c.1 (f := faM131) (j := 131) rfl)
  obtain ⟨oc__law_bad, od__law_bad, osl__law_bad, kV__law_bad, doc__law_bad, pm__law_bad, an__law_bad, cd__law_bad, ct__law_bad, l__law_bad, c__law_bad⟩ := He.fn_ok (d := dM__law_bad) (fntM c.2 (d := dM__law_bad) (j := 25) rfl) (fctM c.1 (f := faM135) (j := 135) rfl)
  have l1__law_bad : K.lookup (He.ga K "_law_bad") = some ⟨oc__law_bad, od__law_bad, .func (PySem.W.fnOf "_law_bad" "_law_bad" (defArgs s__law_bad) (defBody s__law_bad) (defScope s__law_bad) .none kV__law_bad doc__law_bad pm__law_bad an__law_bad cd__law_bad ct__law_bad), osl__law_bad⟩ := l__law_bad
  have F__law_bad := fun_mk (st := s__law_bad) l1__law_bad c__law_bad (fctM c.1 (f := faM134) (j := 134) rfl)
  obtain ⟨oc_law, od_law, osl_law, kV_law, doc_law, pm_law, an_law, cd_law, ct_law, l_law, c_law⟩ := He.fn_ok (d := dM_law) (fntM c.2 (d := dM_law) (j := 26) rfl) (fctM c.1 (f := faM138) (j := 138) rfl)
  have l1_law : K.lookup (He.ga K "law") = some ⟨oc_law, od_law, .func (PySem.W.fnOf "law" "law" (defArgs s_law) (defBody s_law) (defScope s_law) .none kV_law doc_law pm_law an_law cd_law ct_law), osl_law⟩ := l_law
  have F_law := fun_mk (st := s_law) l1_law c_law (fctM c.1 (f := faM137) (j := 137) rfl)
  obtain ⟨tk_LEAST_POSTS, mt_LEAST_POSTS⟩ := He.int_ok X G (x := "LEAST_POSTS") (i := 3) (fctM c.1 (f := faM153) (j := 153) rfl)
  obtain ⟨tk_MOST_POSTS, mt_MOST_POSTS⟩ := He.int_ok X G (x := "MOST_POSTS") (i := 12) (fctM c.1 (f := faM154) (j := 154) rfl)
  let T : Env K mg := { C_MeadError := (He.ga K "MeadError"), c_MeadError := (PySem.W.mg_of X G (He.eqO_ok (fctM c.1 (f := faM8) (j := 8) rfl))), x_MeadError := (fctM c.1 (f := faM9) (j := 9) rfl), k_MeadError := (fctM c.1 (f := faM10) (j := 10) rfl), bs_MeadError := (of_decide_eq_true (fctM c.1 (f := faM0) (j := 0) rfl)), ty_MeadError := (of_decide_eq_true (fctM c.1 (f := faM11) (j := 11) rfl)), e_MeadError := ⟨(He.eqO_ok (fctM c.1 (f := faM1) (j := 1) rfl)), (He.eqO_ok (fctM c.1 (f := faM2) (j := 2) rfl)), (of_decide_eq_true (fctM c.1 (f := faM0) (j := 0) rfl)), (fctM c.1 (f := faM3) (j := 3) rfl), (He.eqO_ok (fctM c.1 (f := faM4) (j := 4) rfl)), (He.eqO_ok (fctM c.1 (f := faM5) (j := 5) rfl)), (of_decide_eq_true (fctM c.1 (f := faM6) (j := 6) rfl)), (of_decide_eq_true (fctM c.1 (f := faM7) (j := 7) rfl))⟩, C_NoFraction := (He.ga K "NoFraction"), c_NoFraction := (PySem.W.mg_of X G (He.eqO_ok (fctM c.1 (f := faM20) (j := 20) rfl))), x_NoFraction := (fctM c.1 (f := faM21) (j := 21) rfl), k_NoFraction := (fctM c.1 (f := faM22) (j := 22) rfl), bs_NoFraction := (of_decide_eq_true (fctM c.1 (f := faM12) (j := 12) rfl)), ty_NoFraction := (of_decide_eq_true (fctM c.1 (f := faM23) (j := 23) rfl)), e_NoFraction := ⟨(He.eqO_ok (fctM c.1 (f := faM13) (j := 13) rfl)), (He.eqO_ok (fctM c.1 (f := faM14) (j := 14) rfl)), (of_decide_eq_true (fctM c.1 (f := faM12) (j := 12) rfl)), (fctM c.1 (f := faM15) (j := 15) rfl), (He.eqO_ok (fctM c.1 (f := faM16) (j := 16) rfl)), (He.eqO_ok (fctM c.1 (f := faM17) (j := 17) rfl)), (of_decide_eq_true (fctM c.1 (f := faM18) (j := 18) rfl)), (of_decide_eq_true (fctM c.1 (f := faM19) (j := 19) rfl))⟩, C_BadTable := (He.ga K "BadTable"), c_BadTable := (PySem.W.mg_of X G (He.eqO_ok (fctM c.1 (f := faM32) (j := 32) rfl))), x_BadTable := (fctM c.1 (f := faM33) (j := 33) rfl), k_BadTable := (fctM c.1 (f := faM34) (j := 34) rfl), bs_BadTable := (of_decide_eq_true (fctM c.1 (f := faM24) (j := 24) rfl)), ty_BadTable := (of_decide_eq_true (fctM c.1 (f := faM35) (j := 35) rfl)), e_BadTable := ⟨(He.eqO_ok (fctM c.1 (f := faM25) (j := 25) rfl)), (He.eqO_ok (fctM c.1 (f := faM26) (j := 26) rfl)), (of_decide_eq_true (fctM c.1 (f := faM24) (j := 24) rfl)), (fctM c.1 (f := faM27) (j := 27) rfl), (He.eqO_ok (fctM c.1 (f := faM28) (j := 28) rfl)), (He.eqO_ok (fctM c.1 (f := faM29) (j := 29) rfl)), (of_decide_eq_true (fctM c.1 (f := faM30) (j := 30) rfl)), (of_decide_eq_true (fctM c.1 (f := faM31) (j := 31) rfl))⟩, C_BadPairs := (He.ga K "BadPairs"), c_BadPairs := (PySem.W.mg_of X G (He.eqO_ok (fctM c.1 (f := faM49) (j := 49) rfl))), k_BadPairs := (fctM c.1 (f := faM44) (j := 44) rfl), bs_BadPairs := (of_decide_eq_true (fctM c.1 (f := faM36) (j := 36) rfl)), ty_BadPairs := (of_decide_eq_true (fctM c.1 (f := faM45) (j := 45) rfl)), e_BadPairs := ⟨(He.eqO_ok (fctM c.1 (f := faM37) (j := 37) rfl)), (He.eqO_ok (fctM c.1 (f := faM38) (j := 38) rfl)), (of_decide_eq_true (fctM c.1 (f := faM36) (j := 36) rfl)), (fctM c.1 (f := faM39) (j := 39) rfl), (He.eqO_ok (fctM c.1 (f := faM40) (j := 40) rfl)), (He.eqO_ok (fctM c.1 (f := faM41) (j := 41) rfl)), (of_decide_eq_true (fctM c.1 (f := faM42) (j := 42) rfl)), (of_decide_eq_true (fctM c.1 (f := faM43) (j := 43) rfl))⟩, a_BadPairs___init__ := (He.ma K (He.ga K "BadPairs") "__init__"), fd_BadPairs___init__ := _, sup_BadPairs := ⟨⟨oexB_ok (fctM c.1 (f := faM46) (j := 46) rfl), (He.eqO_ok (fctM c.1 (f := faM47) (j := 47) rfl)), (of_decide_eq_true (fctM c.1 (f := faM36) (j := 36) rfl)), (of_decide_eq_true (fctM c.1 (f := faM45) (j := 45) rfl)), (fctM c.1 (f := faM44) (j := 44) rfl)⟩, (He.eqO_ok (fctM c.1 (f := faM50) (j := 50) rfl)), (of_decide_eq_true (fctM c.1 (f := faM51) (j := 51) rfl)), ⟨oc_BadPairs___init__, od_BadPairs___init__, an_BadPairs___init__, osl_BadPairs___init__, kV_BadPairs___init__, doc_BadPairs___init__, pm_BadPairs___init__, ct_BadPairs___init__, cda_BadPairs___init__, cc_BadPairs___init__, rfl, lk_BadPairs___init__⟩, Option.isSome_iff_exists.mp (fctM c.1 (f := faM52) (j := 52) rfl), (of_decide_eq_true (fctM c.1 (f := faM53) (j := 53) rfl)), (He.eqO_ok (fctM c.1 (f := faM54) (j := 54) rfl)), (He.eqO_ok (fctM c.1 (f := faM55) (j := 55) rfl)), (of_decide_eq_true (fctM c.1 (f := faM56) (j := 56) rfl))⟩, b_BadPairs___init__ := Binds.all (ps := ["self", "two"]) fun us hl => match us, hl with | [_, _], _ => rfl, na_BadPairs_two := (He.eqO_ok (fctM c.1 (f := faM57) (j := 57) rfl)), xf_BadPairs := ⟨(He.eqO_ok (fctM c.1 (f := faM37) (j := 37) rfl)), (He.eqO_ok (fctM c.1 (f := faM38) (j := 38) rfl)), (of_decide_eq_true (fctM c.1 (f := faM36) (j := 36) rfl)), (fctM c.1 (f := faM39) (j := 39) rfl)⟩, sub_BadPairs_BadPairs := (of_decide_eq_true (fctM c.1 (f := faM58) (j := 58) rfl)), a_lowest := (He.ga K "lowest"), fd_lowest := _, F_lowest := F_lowest, g_lowest := (PySem.W.mg_of X G (He.eqO_ok (fctM c.1 (f := faM61) (j := 61) rfl))), b_lowest := F_lowest.binds (ps := ["top", "bottom"]) fun _ _ _ _ _ _ us hl => match us, hl with | [_, _], _ => rfl, a_less := (He.ga K "less"), fd_less := _, F_less := F_less, g_less := (PySem.W.mg_of X G (He.eqO_ok (fctM c.1 (f := faM64) (j := 64) rfl))), b_less := F_less.binds (ps := ["one", "other"]) fun _ _ _ _ _ _ us hl => match us, hl with | [_, _], _ => rfl, a_times := (He.ga K "times"), fd_times := _, F_times := F_times, g_times := (PySem.W.mg_of X G (He.eqO_ok (fctM c.1 (f := faM67) (j := 67) rfl))), b_times := F_times.binds (ps := ["one", "other"]) fun _ _ _ _ _ _ us hl => match us, hl with | [_, _], _ => rfl, a_is_part := (He.ga K "is_part"), fd_is_part := _, F_is_part := F_is_part, g_is_part := (PySem.W.mg_of X G (He.eqO_ok (fctM c.1 (f := faM70) (j := 70) rfl))), b_is_part := F_is_part.binds (ps := ["one"]) fun _ _ _ _ _ _ us hl => match us, hl with | [_], _ => rfl, a_is_length := (He.ga K "is_length"), fd_is_length := _, F_is_length := F_is_length, g_is_length := (PySem.W.mg_of X G (He.eqO_ok (fctM c.1 (f := faM73) (j := 73) rfl))), b_is_length := F_is_length.binds (ps := ["one"]) fun _ _ _ _ _ _ us hl => match us, hl with | [_], _ => rfl, a_looked := (He.ga K "looked"), fd_looked := _, F_looked := F_looked, g_looked := (PySem.W.mg_of X G (He.eqO_ok (fctM c.1 (f := faM76) (j := 76) rfl))), b_looked := F_looked.binds (ps := ["table"]) fun _ _ _ _ _ _ us hl => match us, hl with | [_], _ => rfl, a_is_twin_length := (He.ga K "is_twin_length"), fd_is_twin_length := _, F_is_twin_length := F_is_twin_length, g_is_twin_length := (PySem.W.mg_of X G (He.eqO_ok (fctM c.1 (f := faM79) (j := 79) rfl))), b_is_twin_length := F_is_twin_length.binds (ps := ["table", "i", "k"]) fun _ _ _ _ _ _ us hl => match us, hl with | [_, _, _], _ => rfl, a_broken := (He.ga K "broken"), fd_broken := _, F_broken := F_broken, g_broken := (PySem.W.mg_of X G (He.eqO_ok (fctM c.1 (f := faM82) (j := 82) rfl))), b_broken := F_broken.binds (ps := ["table"]) fun _ _ _ _ _ _ us hl => match us, hl with | [_], _ => rfl, a_keeps_rule := (He.ga K "keeps_rule"), fd_keeps_rule := _, F_keeps_rule := F_keeps_rule, g_keeps_rule := (PySem.W.mg_of X G (He.eqO_ok (fctM c.1 (f := faM85) (j := 85) rfl))), b_keeps_rule := F_keeps_rule.binds (ps := ["table", "a", "b", "c", "d"]) fun _ _ _ _ _ _ us hl => match us, hl with | [_, _, _, _, _], _ => rfl, a_multiplied := (He.ga K "multiplied"), fd_multiplied := _, F_multiplied := F_multiplied, g_multiplied := (PySem.W.mg_of X G (He.eqO_ok (fctM c.1 (f := faM88) (j := 88) rfl))), b_multiplied := F_multiplied.binds (ps := ["one", "other"]) fun _ _ _ _ _ _ us hl => match us, hl with | [_, _], _ => rfl, a_of_pairs := (He.ga K "of_pairs"), fd_of_pairs := _, F_of_pairs := F_of_pairs, g_of_pairs := (PySem.W.mg_of X G (He.eqO_ok (fctM c.1 (f := faM91) (j := 91) rfl))), b_of_pairs := F_of_pairs.binds (ps := ["rows"]) fun _ _ _ _ _ _ us hl => match us, hl with | [_], _ => rfl, a_spread := (He.ga K "spread"), fd_spread := _, F_spread := F_spread, g_spread := (PySem.W.mg_of X G (He.eqO_ok (fctM c.1 (f := faM94) (j := 94) rfl))), b_spread := F_spread.binds (ps := ["one", "other"]) fun _ _ _ _ _ _ us hl => match us, hl with | [_, _], _ => rfl, a__law_flow := (He.ga K "_law_flow"), fd__law_flow := _, F__law_flow := F__law_flow, g__law_flow := (PySem.W.mg_of X G (He.eqO_ok (fctM c.1 (f := faM97) (j := 97) rfl))), b__law_flow := F__law_flow.binds (ps := ["_law_script", "_law_many_here"]) fun _ _ _ _ _ _ us hl => match us, hl with | [_, _], _ => rfl, a__law_whole := (He.ga K "_law_whole"), fd__law_whole := _, F__law_whole := F__law_whole, g__law_whole := (PySem.W.mg_of X G (He.eqO_ok (fctM c.1 (f := faM100) (j := 100) rfl))), b__law_whole := F__law_whole.binds (ps := ["_law_found"]) fun _ _ _ _ _ _ us hl => match us, hl with | [_], _ => rfl, a__law_low := (He.ga K "_law_low"), fd__law_low := _, F__law_low := F__law_low, g__law_low := (PySem.W.mg_of X G (He.eqO_ok (fctM c.1 (f := faM103) (j := 103) rfl))), b__law_low := F__law_low.binds (ps := ["_law_top", "_law_bottom"]) fun _ _ _ _ _ _ us hl => match us, hl with | [_, _], _ => rfl, a__law_add := (He.ga K "_law_add"), fd__law_add := _, F__law_add := F__law_add, g__law_add := (PySem.W.mg_of X G (He.eqO_ok (fctM c.1 (f := faM106) (j := 106) rfl))), b__law_add := F__law_add.binds (ps := ["_law_one", "_law_other"]) fun _ _ _ _ _ _ us hl => match us, hl with | [_, _], _ => rfl, a__law_mul := (He.ga K "_law_mul"), fd__law_mul := _, F__law_mul := F__law_mul, g__law_mul := (PySem.W.mg_of X G (He.eqO_ok (fctM c.1 (f := faM109) (j := 109) rfl))), b__law_mul := F__law_mul.binds (ps := ["_law_one", "_law_other"]) fun _ _ _ _ _ _ us hl => match us, hl with | [_, _], _ => rfl, a__law_part := (He.ga K "_law_part"), fd__law_part := _, F__law_part := F__law_part, g__law_part := (PySem.W.mg_of X G (He.eqO_ok (fctM c.1 (f := faM112) (j := 112) rfl))), b__law_part := F__law_part.binds (ps := ["_law_found"]) fun _ _ _ _ _ _ us hl => match us, hl with | [_], _ => rfl, a__law_size := (He.ga K "_law_size"), fd__law_size := _, F__law_size := F__law_size, g__law_size := (PySem.W.mg_of X G (He.eqO_ok (fctM c.1 (f := faM115) (j := 115) rfl))), b__law_size := F__law_size.binds (ps := ["_law_one"]) fun _ _ _ _ _ _ us hl => match us, hl with | [_], _ => rfl, a__law_many := (He.ga K "_law_many"), fd__law_many := _, F__law_many := F__law_many, g__law_many := (PySem.W.mg_of X G (He.eqO_ok (fctM c.1 (f := faM118) (j := 118) rfl))), b__law_many := F__law_many.binds (ps := ["_law_row"]) fun _ _ _ _ _ _ us hl => match us, hl with | [_], _ => rfl, a__law_spread := (He.ga K "_law_spread"), fd__law_spread := _, F__law_spread := F__law_spread, g__law_spread := (PySem.W.mg_of X G (He.eqO_ok (fctM c.1 (f := faM121) (j := 121) rfl))), b__law_spread := F__law_spread.binds (ps := ["_law_one", "_law_other"]) fun _ _ _ _ _ _ us hl => match us, hl with | [_, _], _ => rfl, a__law_tuple := (He.ga K "_law_tuple"), fd__law_tuple := _, F__law_tuple := F__law_tuple, g__law_tuple := (PySem.W.mg_of X G (He.eqO_ok (fctM c.1 (f := faM124) (j := 124) rfl))), b__law_tuple := F__law_tuple.binds (ps := ["_law_found", "_law_many_here"]) fun _ _ _ _ _ _ us hl => match us, hl with | [_, _], _ => rfl, a__law_parts := (He.ga K "_law_parts"), fd__law_parts := _, F__law_parts := F__law_parts, g__law_parts := (PySem.W.mg_of X G (He.eqO_ok (fctM c.1 (f := faM127) (j := 127) rfl))), b__law_parts := F__law_parts.binds (ps := ["_law_found", "_law_due"]) fun _ _ _ _ _ _ us hl => match us, hl with | [_, _], _ => rfl, a__law_table := (He.ga K "_law_table"), fd__law_table := _, F__law_table := F__law_table, g__law_table := (PySem.W.mg_of X G (He.eqO_ok (fctM c.1 (f := faM130) (j := 130) rfl))), b__law_table := F__law_table.binds (ps := ["_law_found", "_law_due"]) fun _ _ _ _ _ _ us hl => match us, hl with | [_, _], _ => rfl, a__law_drawn := (He.ga K "_law_drawn"), fd__law_drawn := _, F__law_drawn := F__law_drawn, g__law_drawn := (PySem.W.mg_of X G (He.eqO_ok (fctM c.1 (f := faM133) (j := 133) rfl))), b__law_drawn := F__law_drawn.binds (ps := ["_law_n", "_law_row", "_law_way"]) fun _ _ _ _ _ _ us hl => match us, hl with | [_, _, _], _ => rfl, a__law_bad := (He.ga K "_law_bad"), fd__law_bad := _, F__law_bad := F__law_bad, g__law_bad := (PySem.W.mg_of X G (He.eqO_ok (fctM c.1 (f := faM136) (j := 136) rfl))), b__law_bad := F__law_bad.binds (ps := ["_law_rows"]) fun _ _ _ _ _ _ us hl => match us, hl with | [_], _ => rfl, a_law := (He.ga K "law"), fd_law := _, F_law := F_law, g_law := (PySem.W.mg_of X G (He.eqO_ok (fctM c.1 (f := faM139) (j := 139) rfl))), b_law := F_law.binds (ps := ["_law_script"]) fun _ _ _ _ _ _ us hl => match us, hl with | [_], _ => rfl, m_abs := PySem.W.mg_none_of X G (He.eqO_ok (fctM c.1 (f := faM140) (j := 140) rfl)), m_all := PySem.W.mg_none_of X G (He.eqO_ok (fctM c.1 (f := faM141) (j := 141) rfl)), m_any := PySem.W.mg_none_of X G (He.eqO_ok (fctM c.1 (f := faM142) (j := 142) rfl)), m_bool := PySem.W.mg_none_of X G (He.eqO_ok (fctM c.1 (f := faM143) (j := 143) rfl)), m_int := PySem.W.mg_none_of X G (He.eqO_ok (fctM c.1 (f := faM144) (j := 144) rfl)), m_isinstance := PySem.W.mg_none_of X G (He.eqO_ok (fctM c.1 (f := faM145) (j := 145) rfl)), m_len := PySem.W.mg_none_of X G (He.eqO_ok (fctM c.1 (f := faM146) (j := 146) rfl)), m_list := PySem.W.mg_none_of X G (He.eqO_ok (fctM c.1 (f := faM147) (j := 147) rfl)), m_max := PySem.W.mg_none_of X G (He.eqO_ok (fctM c.1 (f := faM148) (j := 148) rfl)), m_min := PySem.W.mg_none_of X G (He.eqO_ok (fctM c.1 (f := faM149) (j := 149) rfl)), m_range := PySem.W.mg_none_of X G (He.eqO_ok (fctM c.1 (f := faM150) (j := 150) rfl)), m_super := PySem.W.mg_none_of X G (He.eqO_ok (fctM c.1 (f := faM151) (j := 151) rfl)), m_tuple := PySem.W.mg_none_of X G (He.eqO_ok (fctM c.1 (f := faM152) (j := 152) rfl)), tk_LEAST_POSTS := tk_LEAST_POSTS, m_LEAST_POSTS := mt_LEAST_POSTS, tk_MOST_POSTS := tk_MOST_POSTS, m_MOST_POSTS := mt_MOST_POSTS, o_NOUGHT := (He.ga K "NOUGHT"), m_NOUGHT := (PySem.W.mg_of X G (He.eqO_ok (fctM c.1 (f := faM156) (j := 156) rfl))), l_NOUGHT := tupNs2_ok (fctM c.1 (f := faM155) (j := 155) rfl), m_combinations := (PySem.W.mg_of X G (He.eqO_ok (fctM c.1 (f := faM157) (j := 157) rfl))), m_gcd := (PySem.W.mg_of X G (He.eqO_ok (fctM c.1 (f := faM158) (j := 158) rfl))) }
  exact ⟨PySem.W.fnOf "law" "law" (defArgs s_law) (defBody s_law) (defScope s_law) .none kV_law doc_law pm_law an_law cd_law ct_law, fun s v => .of_eq rfl, fun base _ _ => ok_law T su⟩
end
end My
open PySem PySem.W PySem.Calls PyProof.Rows
set_option maxRecDepth 100000 in
set_option maxHeartbeats 0 in
theorem PySem.Challenge.cw_postmead_k29_tables_of_pairs_holds : PySem.Challenge.rw_postmead_k29_tables_of_pairs.Holds := by
  w_on; o_law
  refine HandSHeadRun.head_imp (r := OpenLaw.row PySem.Challenge.rw_postmead_k29_tables_of_pairs) (q := view (OpenLaw.row PySem.Challenge.rw_postmead_k29_tables_of_pairs).prog [39]) (H := My.hkM) (ob := My.obM) (M := 9000) (loose := My.looM) (d := HandSHeadRun.topDef (OpenLaw.row PySem.Challenge.rw_postmead_k29_tables_of_pairs).prog 39) (kwd := []) My.obM_eq
    My.runM (by kernel_rfl) (by kernel_rfl) (by kernel_rfl) (by rfl) (by first | assumption | decide +kernel) (by decide +kernel) ⟨rfl, rfl, rfl, rfl, rfl, by decide +kernel⟩ ?hw ?hc
  case hw => w_witness2
  case hc =>
    refine L2.walk_ofE (l := PySem.Challenge.rw_postmead_k29_tables_of_pairs) (n := 63) (k := 12) (x := "_law_script") (CX := L2.CX0) rfl (by decide) (by kernel_rfl) ⟨rfl, by decide, by decide⟩ ?F (fun _ _ _ _ z => z)
    intro w mg fa h Y G hmg0
    obtain ⟨K, KX, c⟩ := Y
    have hmg : mg ("law" : PySem.Str) = some (.ref fa) := by
      have e : (HandSHeadRun.topDef (OpenLaw.row PySem.Challenge.rw_postmead_k29_tables_of_pairs).prog 39).name = ("law" : PySem.Str) := by kernel_rfl
      rw [← e]
      exact hmg0
    obtain ⟨fd, hb, hF⟩ := My.all_mk (P := (OpenLaw.row PySem.Challenge.rw_postmead_k29_tables_of_pairs).prog) ⟨by rfl, by kernel_rfl⟩ (w := w) KX G hmg c
    exact ⟨K, fd, My.sp_law K, KX, hb, fun H a ns hl _ hS => ⟨a, ns, rfl, hS, hl, fun _ => rfl⟩, hF⟩
#print axioms PySem.Challenge.cw_postmead_k29_tables_of_pairs_holds
