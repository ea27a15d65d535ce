import PyProof.Rows.All
import KE.KStateDown
import HandS.Head0
import HandS.Head1
import HandS.Head2
import Wide.All
import OpenK.AllK
import Wide.FinOn
import HandS.ForMost
import HandS.Exc
import HandS.TryOnly
import HandS.ExcInit
import HandS.Nested
import KE.KExcSuper
import HandS.Defaults
import HandS.IsInst
import HandS.ExcIs
import HandS.ExcField
import HandS.WordsExc
import HandS.More
import HandS.Codes
import HandS.DictComp
import HandS.Property
import HandS.MakeKw
import HandS.MakeKwOnly
import HandS.SlotsOwn
import KE.KExcIs
import HandS.Text
import HandS.Walk
import HandS.FStr
import HandS.List
import HandS.Conv
import HandS.IterVal
import HandS.Star
import KE.KOwnIter
import HandS.SortKw
import HandS.SortInts
import HandS.TupAny
import HandS.WordsDict
import HandS.NoneIn
import KE.GoesEnumKw
import HandS.Zip
import KE.KDictList
import HandS.CallLocal
import PySem.Challenge.RW_stamprules_k27_whole_closed_table
set_option Elab.async false
set_option linter.all false
set_option maxRecDepth 100000
set_option maxHeartbeats 4000000
/-! An own exception over ValueError, through a chain of own classes, whose own __init__ begins with super().__init__(..): that __init__ keeps a promise. -/
namespace SI
open PySem PySem.Spec PyProof.Rows L2 NdefX

/-- what the written part tells of the class at C, of the class at D in which the __init__ stands, and of that function at f -/
structure SupT (prog : Program) (K : PySem.W.Frag) (mg : Str → Option Value) (D f cda cc : Addr) (F : NF) (fd : FuncData) : Prop where
  oex : OexC K D
  sup : PySem.W.ks_superIn K D D "__init__" = some (some (.builtin "ValueError.__init__"))
  vE : PySem.W.subIn K (.ref D) (.type "ValueError") = some true
  mD : PySem.W.mroIn K D (.ref D) = some true
  th : PySem.W.nsIn K cStatics "thirdparty.any" = some none
  noSuper : mg "super" = none
  cl : F.cl = [(("__class__" : Str), cc)]
  cdF : F.c = cda
  fn : ∃ (oc kV doc pm ct : Value) (od : Option Addr) (an : Option Addr) (osl : Array (Option Value)),
    fd = PySem.W.fnX F.name F.qual F.params F.body F.scope F.cl .none kV doc pm an (.ref cda) ct ∧ K.lookup f = some ⟨oc, od, .func fd, osl⟩
  code : ∃ (ccl : Value) (cdd : Option Addr) (vs : Array Value) (ccs : Array (Option Value)) (file : Str) (tf : Tok), K.lookup cda = some ⟨ccl, cdd, .fields vs, ccs⟩ ∧ vs[2]? = some (.str file tf) ∧ ((prog.main.file : Str) == file) = true
  codeR : PySem.W.codeIn K (.ref cda) F.qual = true
  cell : ∃ (ccl : Value) (cdd : Option Addr) (ccs : Array (Option Value)), K.lookup cc = some ⟨ccl, cdd, .cell (some (.ref D)), ccs⟩
  top : (prog.main.scope.names.lookup ("super" : Str)).isSome = false

theorem clsIn_of {K : PySem.W.Frag} {C : Addr} (T : OexC K C) : ∃ cd, PySem.W.clsIn K C = some cd ∧ cd.mro.contains (.type "object") = true := by
  obtain ⟨nm, q, N, bs, bm, sn, sub, ab, col, dd, k0, k1, k2, k3, k5, hC, hbm⟩ := T.cls
  refine ⟨{ name := nm, bases := bs, mro := .ref C :: bm, ns := N, qualname := q, hasDict := true, slotNames := sn, subclasses := sub, abstract := ab, collection := col, hasDel := false }, ?_, ?_⟩
  · unfold PySem.W.clsIn; rw [hC] <;> rfl
  · exact (PySem.HandSPX.refsVE_contains "object" (.ref C :: bm) hbm).trans (by decide +kernel)

section
variable {prog : Program} {w : World} {A : Around} {E : Value → Shared → Prop} {h : Heap} {g : Array GenState} {d : Drawn} {t : Nat} {os : OsState}
theorem bw_call {K : PySem.W.Frag} {u e C t0 : Addr} {rest : List Value} {Q : Value → Shared → Prop} (T : OexC K C) (X : K.In h) (he : h.get? e = some (HandSPX.excO C t0)) (hu : h.get? u = some (PySem.W.kxs_mw "ValueError.__init__" e)) (hrest : rest.length ≤ sizeLine)
    (hq : ∀ h' t1, (∀ b o, b ≠ e → h.get? b = some o → h'.get? b = some o) → h'.get? e = some (HandSPX.excO C t1) → Q .none ⟨h', g, d, t, os⟩) :
    wpAny (model prog w) A (call (.ref u) rest) Q E ⟨h, g, d, t, os⟩ := by
  obtain ⟨nm, q, N, bs, bm, sn, sub, ab, col, dd, k0, k1, k2, k3, k5, hC, hbm⟩ := T.cls
  have hC' := X _ _ hC
  refine wpAny_call (codeAny_of_tree ?_)
  show wpAny _ A.in1 (callAny (.ref u) ⟨rest, []⟩) _ _ _
  simp only [callAny]
  refine wpAny_bind (wpAny_load hu ?_)
  simp only [PySem.W.kxs_mw, show (Value.type "method-wrapper" == Value.type "method" || Value.type "method-wrapper" == Value.type "builtin_function_or_method" || Value.type "method-wrapper" == Value.type "method-wrapper") = true by decide, if_true]
  refine PySem.W.KFB.if_so (by decide) ?_
  refine wpAny_bind (PySem.W.check_bound_init F.excBase_ValueError.toExcCallFacts hC' he rfl ?_)
  refine wpAny_bind (wpAny_pure (wpAny_pure ?_))
  refine ⟨plainId_quiet F.excBase_ValueError.init.plain _, codeAny_builtin F.excBase_ValueError.initEntry ?_⟩
  exact PySem.W.exc_init_tree (cls := .ref C) (t0 := t0) (dv := none) (c2 := .none) (c3 := .none) (b4 := .bool false) he hrest (fun h' k e' t' => hq h' _ k e')
end

section
variable {X : Cx} {es : List Expr} {ta : TA} {p0 p1 p2 p3 p4 : Pos} {body : List Stmt} {pins : List (Addr × Obj)} {σ : L2.St} {H : Hp} {s : Shared} {a D f cda cc : Addr} {F : NF} {fd : FuncData} {ar : Arg} {Q : Hp → Prop}
/-- super().__init__(..) as a statement of an __init__ -/
theorem sup_stmt {pl : Sem Bool} (T : SupT X.prog X.K X.mg D f cda cc F fd) (henv : X.env = envF F f X.env.locals)
    (hks : F.scope.names.lookup ("super" : Str) = some .globalImplicit) (hkc : F.scope.names.lookup ("__class__" : Str) = some .free)
    (hp : (F.params.posonlyargs ++ F.params.args).head? = some ar) (hka : F.scope.names.lookup ar.arg = some .local) (hN : X.N[0]? = some ar.arg)
    (ha : PA X es ta) (hpl : (backTo p3 (starEach es X.env)).any (·.1) = false) (hst : ∀ (u : Value) (Q' : Args → Shared → Prop) (s' : Shared), wpAny (model X.prog X.w) X.A (spliced (backTo p3 (starEach es X.env))) (fun vs s₁ => Q' ⟨vs, []⟩ s₁) X.xe s' → wpAny (model X.prog X.w) X.A (evalArgs u true (backTo p3 (starEach es X.env)) []) Q' X.xe s')
    (hev : eval (.Call (.Attribute (.Call (.Name "super" p0) [] [] p1) "__init__" p2) es [] p3) X.env = (do
      let ov ← attributeBase (.Call (.Name "super" p0) [] [] p1) "__init__" X.env (eval (.Call (.Name "super" p0) [] [] p1) X.env)
      standAt p2.atName
      let (f, first) ← holding [ov] (getMethod ov "__init__" pl)
      callWith p3 f first (backTo p3 (starEach es X.env)) []))
    (hsw : swapsWith (.Call (.Attribute (.Call (.Name "super" p0) [] [] p1) "__init__" p2) es [] p3) none p4.line X.env = pure false)
    (I : Inv X pins σ H s) (e0 : σ[0]? = some (some (.ref a))) (ea : H a = some (exo a D none))
    (h : ta σ H fun vs H1 => vs.length ≤ 1000 ∧ H1 a = some (exo a D none) ∧ Q H1) :
    _root_.PySem.wpAt (model X.prog X.w) X.A (.func body X.env) (exec (.Expr (.Call (.Attribute (.Call (.Name "super" p0) [] [] p1) "__init__" p2) es [] p3) p4) X.env) (fun fl s' => fl = .next ∧ ∃ H', Inv X pins σ H' s' ∧ Q H') X.xe s := by
  obtain ⟨fn, _⟩ : True ∧ True := ⟨trivial, trivial⟩
  obtain ⟨oc, kV, doc, pm, ct, od, an, osl, rfl, hfn⟩ := T.fn
  obtain ⟨ccl, cdd, vs, ccs, file, tf, hcode, hvs, hfile⟩ := T.code
  obtain ⟨cl, cld, csl, hcell⟩ := T.cell
  obtain ⟨cdD, hD, hob⟩ := clsIn_of T.oex
  have KX := I.kIn
  have hki : ∀ x, X.env.kindOf x = List.lookup x F.scope.names := fun x => by rw [henv] <;> rfl
  have hkind : X.env.scope.kind = .function := I.ok.kind
  obtain ⟨oD, hD1, hD2⟩ : ∃ oD, s.heap.get? D = some oD ∧ oD.data = .cls cdD := by
    unfold PySem.W.clsIn at hD
    split at hD
    · rename_i c d cd' sl ho
      cases hD
      exact ⟨_, KX _ _ ho, rfl⟩
    · cases hD
  obtain ⟨t1, ho⟩ := exo_at I.hok ea
  have hxD : a ≠ D := by
    rintro rfl
    rw [ho] at hD1
    cases hD1
    cases hD2
  refine ks_wpAt_Expr_any (ks_wpAt_MethodCall (pl := pl) ?_ hev) (by simp [interactive, hkind]) hsw
  have hcells : X.env.cells = [(("__class__" : Str), cc)] := by rw [henv]; exact T.cl
  refine ks_wpAt_super_base (f := f) (cc := cda) (of := ⟨oc, od, .func (PySem.W.fnX F.name F.qual F.params F.body F.scope F.cl .none kV doc pm an (.ref cda) ct), osl⟩) (oc := ⟨ccl, cdd, .fields vs, ccs⟩)
    (by rw [hki]; exact hks) (by rw [hki]; exact hkc) (by decide +kernel) (by rw [henv] <;> rfl) (KX _ _ hfn) rfl hp (by rw [henv, ← T.cdF] <;> rfl) (KX _ _ hcode) rfl hvs hfile T.top ?_
  obtain ⟨mb, hb1, hb2⟩ := I.mod.blt
  refine PySem.W.ks_loadName_global hkind (by rw [hki]; exact hks) (PySem.Calls.loadGlobal_builtin (by rw [I.ok.glob]; exact I.mod.glob.keeps I.bk) T.noSuper (by rw [I.ok.blt]; exact hb1.keeps I.bk) ((hb2 _ (by decide)).trans (by decide +kernel : bootBuiltins ("super" : Str) = some (.type "super"))) ⟨rfl, ?_⟩)
  refine wpAny_loadName_free hkind (by rw [hki]; exact hkc) (by rw [hcells]; rfl) ⟨_, KX _ _ hcell, rfl⟩ ?_
  obtain ⟨m, hn, hl⟩ := I.loc
  obtain ⟨u, ru, lk⟩ := hl 0 ar.arg (.ref a) hN e0 (by rw [henv]; exact Or.inl hka)
  obtain rfl : u = Value.ref a := ru
  have hm : m ar.arg = some (.ref a) := by
    rcases lk with ⟨_, z⟩ | ⟨z, _⟩
    · exact z
    · rw [hki, hka] at z
      rcases z with z | z <;> cases z
  refine wpAny_loadName_local hkind (by rw [hki]; exact hka) hn hm ?_
  obtain ⟨hh, g, d, t, os⟩ := s
  refine ks_wpAny_isType_cls hD1 hD2 ⟨rfl, ?_⟩
  refine ks_wpAny_call_super hD1 hD2 ho rfl (fun c e => by cases e) (PySem.W.looks_mroIn KX T.mD) (fun h' hso kp => ?_)
  -- the super object stands at so; now its __init__
  have I1 : Inv X pins σ H ⟨h', g, d, t, os⟩ := I.kept (t' := t) kp
  have KX1 := I1.kIn
  have ho1 := kp _ _ ho
  have hB : PySem.W.Looks (model X.prog X.w) h' (isInstance (.ref a) (.type "ValueError")) true :=
    (PySem.W.InstAt.type (x := a) (ox := HandSPX.excO D t1) (C := D) (od := none) ⟨ho1, rfl, rfl, trivial⟩).andThen (PySem.W.looks_subIn KX1 T.vE)
  have hf := T.sup
  unfold PySem.W.ks_superIn at hf
  rw [hD] at hf
  refine PySem.W.kxs_getMethod (K := X.K) PySem.W.kxs_ValueError hso (PySem.W.looks_opaque KX1 T.th) (l₀ := cdD.mro) ?_ rfl KX1 hf hB hxD (by decide +kernel) ?_
  · exact fun A Q E s k q => wpAny_bind ((PySem.W.looks_clsIn KX1 hD) A _ E s k (wpAny_pure q))
  -- the arguments
  have kp2 : ∀ b u, h'.get? b = some u → (h'.push (PySem.W.kxs_mw "ValueError.__init__" a)).get? b = some u := fun b u e => Heap.get?_push_of_some _ e
  have I2 : Inv X pins σ H ⟨h'.push (PySem.W.kxs_mw "ValueError.__init__" a), g, d, t + 1, os⟩ := I1.kept (t' := t + 1) kp2
  have hu : (h'.push (PySem.W.kxs_mw "ValueError.__init__" a)).get? h'.objs.size = some (PySem.W.kxs_mw "ValueError.__init__" a) := Heap.get?_push_size _ rfl
  have I3 : Inv X (pins ++ [(h'.objs.size, PySem.W.kxs_mw "ValueError.__init__" a)]) σ H ⟨h'.push (PySem.W.kxs_mw "ValueError.__init__" a), g, d, t + 1, os⟩ := by
    refine I2.pins_of fun p hp => ?_
    rcases List.mem_append.mp hp with hp | hp
    · exact I2.pin p (List.mem_append_right _ hp)
    · rw [List.mem_singleton] at hp
      subst hp
      refine ⟨hu, I1.hok.fresh (Nat.le_refl _), ?_, I1.nofs (Nat.le_refl _), fun v z => by cases z⟩
      exact fun z => absurd (I1.lt) (by rw [← z]; exact Nat.lt_irrefl _)
  refine PySem.W.kxs_callWith (i := "ValueError.__init__") (x := a) hpl (hst _ _ _ (thn (ha.run p3 _ _ σ H _ I3 h) fun us s1 ⟨vs1, H1, J, r1, hz, ea1, q⟩ => ?_))
  have hu1 := (J.pin (h'.objs.size, PySem.W.kxs_mw "ValueError.__init__" a) (by simp)).1
  refine ⟨hu1, ?_⟩
  have J0 : Inv X pins σ H1 s1 := J.pins_of fun p hp => J.pin p (List.mem_append_right _ (List.mem_append_left _ hp))
  obtain ⟨t2, ho2⟩ := exo_at J.hok ea1
  obtain ⟨h1, g1, d1, tk1, os1⟩ := s1
  have hlen : us.length ≤ sizeLine := by
    rw [← Paired.length r1, sizeLine_eq]
    omega
  refine bw_call T.oex J.kIn ho2 hu1 hlen fun h2 t3 k hx => ⟨rfl, H1, ?_, q⟩
  have W := J0.write (t' := tk1) (x := a) (e := a) (o := exo a D none) (by rw [ea1]; exact True.intro) (.inl rfl) k ⟨_, hx⟩ (exo_ok hx)
  have eu : upd H1 a (exo a D none) = H1 := by
    funext b
    by_cases hb : b = a
    · rw [hb, upd_same, ea1]
    · rw [upd_ne hb]
  rw [eu] at W
  exact W
end

section
variable {CX : CXT} {P : Program} {w : World} {K : PySem.W.Frag} {mg : Str → Option Value} {base : Heap} {k : Nat} {D f cda cc : Addr} {F : NF} {fd : FuncData} {N ps : List Str} {sp : Sp} {es : List Expr} {rest : List Stmt} {p0 p1 p2 p3 p4 : Pos} {ar : Arg}
abbrev sfr : List Str := [("__class__" : Str)]
abbrev st0 (N : List Str) (vs : List V) : L2.St := startF N vs [none]
/-- THE RULE: an exception's __init__ that begins with super().__init__(..) -/
theorem ok_sup (T : SupT P K mg D f cda cc F fd) (S : NScope N ps sfr F.scope) (hbody : F.body = .Expr (.Call (.Attribute (.Call (.Name "super" p0) [] [] p1) "__init__" p2) es [] p3) p4 :: rest)
    (hks : F.scope.names.lookup ("super" : Str) = some .globalImplicit) (hp : (F.params.posonlyargs ++ F.params.args).head? = some ar) (hps : ps[0]? = some ar.arg)
    (len : ∀ vs H Q E, sp vs H Q E → vs.length = ps.length)
    (hb : ∀ (A : Around) (outer : List Env) (s : Shared) (H : Hp) (vs : List V) (Q : VK) (E : XK), Room k (A.deeper (envF F f s.heap.objs.size)) → sp vs H Q E →
      ∃ (a : Addr) (ta : TA) (t : TS) (pl : Sem Bool), PA (ncx CX P w K mg base N F f A outer s H E) es ta ∧ PSs (ncx CX P w K mg base N F f A outer s H E) rest t ∧
        (backTo p3 (starEach es (envF F f s.heap.objs.size))).any (·.1) = false ∧
        (∀ (M : Model) (B : Around) (u : Value) (Q' : Args → Shared → Prop) (E' : Value → Shared → Prop) (s' : Shared), wpAny M B (spliced (backTo p3 (starEach es (envF F f s.heap.objs.size)))) (fun vs s₁ => Q' ⟨vs, []⟩ s₁) E' s' → wpAny M B (evalArgs u true (backTo p3 (starEach es (envF F f s.heap.objs.size))) []) Q' E' s') ∧
        eval (.Call (.Attribute (.Call (.Name "super" p0) [] [] p1) "__init__" p2) es [] p3) (envF F f s.heap.objs.size) = (do
          let ov ← attributeBase (.Call (.Name "super" p0) [] [] p1) "__init__" (envF F f s.heap.objs.size) (eval (.Call (.Name "super" p0) [] [] p1) (envF F f s.heap.objs.size))
          standAt p2.atName
          let (g, first) ← holding [ov] (getMethod ov "__init__" pl)
          callWith p3 g first (backTo p3 (starEach es (envF F f s.heap.objs.size))) []) ∧
        swapsWith (.Call (.Attribute (.Call (.Name "super" p0) [] [] p1) "__init__" p2) es [] p3) none p4.line (envF F f s.heap.objs.size) = pure false ∧
        vs[0]? = some (.ref a) ∧ H a = some (exo a D none) ∧ ta (st0 N vs) H fun ws H1 => ws.length ≤ 1000 ∧ H1 a = some (exo a D none) ∧ t { nx := fun _ H' => Q .non H', rt := Q } (st0 N vs) H1) :
    FnOk P w K mg base CX (k + 1) f fd ps sp := by
  refine ⟨len, fun A outer s H args us vs Q E hr e0 hbd r hsp => ?_⟩
  have hl := len _ _ _ _ hsp
  have KX : K.In s.heap := e0.mod.kin.keeps fun b o e => (e0.bs b o e).1
  have lim : s.heap.NoLimit := e0.mod.nolimit.keeps fun b o e => (e0.bs b o e).1
  obtain ⟨oc, kV, doc, pm, ct, od, an, osl, efd, hfn⟩ := T.fn
  obtain ⟨cl, cld, csl, hcell⟩ := T.cell
  have hcc := KX _ _ hcell
  have hHc : H cc = none := (e0.bs _ _ (e0.mod.kin _ _ hcell)).2
  have C : CellsAt F.cl sfr [none] s.heap H := by
    rw [T.cl]
    refine ⟨rfl, fun y c e => ?_, fun x y c e1 e2 => ?_, fun i y hy => ?_⟩
    · have ec : c = cc := by
        simp only [List.lookup] at e
        split at e
        · exact (Option.some.inj e).symm
        · cases e
      subst ec
      exact ⟨hHc, _, _, hcc, rfl⟩
    · have key : ∀ {z : Str}, List.lookup z [(("__class__" : Str), cc)] = some c → z = ("__class__" : Str) := fun {z} e => by
        simp only [List.lookup] at e
        split at e
        · rename_i q
          exact eq_of_beq q
        · cases e
      rw [key e1, key e2]
    · cases i with
      | zero =>
        have hy' : some ("__class__" : Str) = some y := hy
        cases hy'
        exact ⟨cc, by simp [List.lookup], fun v e => by cases e⟩
      | succ i =>
        have : sfr[i + 1]? = none := rfl
        rw [this] at hy
        cases hy
  have hka : F.scope.names.lookup ar.arg = some .local := S.par _ (List.mem_of_getElem? hps)
  have hkc : F.scope.names.lookup ("__class__" : Str) = some .free := S.frk _ (by simp)
  have hN : N[0]? = some ar.arg := by
    have q : (ps ++ sfr)[0]? = some ar.arg := by
      rw [List.getElem?_append_left (List.getElem?_eq_some_iff.mp hps).1]
      exact hps
    rw [← S.pre, List.getElem?_take_of_lt (by have := (List.getElem?_eq_some_iff.mp hps).1; omega)] at q
    exact q
  subst efd
  refine PySem.ks_codeAny_call_defAt (fd := PySem.W.fnX F.name F.qual F.params F.body F.scope F.cl .none kV doc pm an (.ref cda) ct) (body := F.body) hr.depth (KX _ _ hfn) rfl lim (PySem.W.codeRec_of KX T.codeR) rfl hbd S.nocell (fun ⟨n, _⟩ hy => S.par n (List.of_mem_zip hy).1) (fun h₁ hns kp => ?_) S.co S.gen S.kind
  obtain ⟨a, ta, t, pl, hPA, hPS, hpl, hst, hev, hsw, ea, eH, hq⟩ := hb A outer s H vs Q E (hr.deeper _) hsp
  have I : Inv (ncx CX P w K mg base N F f A outer s H E) [] (startF N vs [none]) H { s with heap := h₁, toks := s.toks + (ps.zip us).length } := inv_startN S hr.hd e0 hl r C hns kp
  have eenv : PySem.callEnv (PySem.W.fnX F.name F.qual F.params F.body F.scope F.cl .none kV doc pm an (.ref cda) ct) s.heap.objs.size f = envF F f s.heap.objs.size := by
    rw [← T.cdF]
    rfl
  rw [eenv]
  have fin : ∀ {s' : Shared} {σ' : L2.St} {H' : Hp} {v : V} {u : Value}, Inv (ncx CX P w K mg base N F f A outer s H E) [] σ' H' s' → L2.RelV v u → Q v H' → CE outer P w H s Q u s' :=
    fun {s' σ' H' v u} J rv q => ⟨v, H', J.os, J.bare, J.base, J.hok, rv, q⟩
  rw [hbody]
  have e0' : (startF N vs [none])[0]? = some (some (V.ref a)) := by
    unfold startF
    have hi := (List.getElem?_eq_some_iff.mp ea).1
    rw [List.getElem?_append_left (by rw [List.length_map]; exact hi), List.getElem?_map, ea]
    rfl
  have first := sup_stmt (X := ncx CX P w K mg base N F f A outer s H E) (body := F.body) (pl := pl) T rfl hks hkc hp hka hN hPA hpl (fun u Q' s' z => hst _ _ u Q' _ s' z) hev hsw I e0' eH hq
  rw [hbody] at first
  refine PySem.ks_wpAt_execs_cons (PySem.ks_wpAt_mono first (fun fl s' hs => ?_) fun e s' hs => hs)
  obtain ⟨rfl, H1, J, q⟩ := hs
  refine PySem.wpAt_of_wpAny (wpAny_mono (hPS.run [] s' _ H1 _ J q) (fun fl s2 hs => ?_) fun e s2 hs => hs)
  cases fl with
  | ret u =>
    obtain ⟨v, σ', H', J, rv, q⟩ := hs
    exact fin J rv q
  | next =>
    obtain ⟨σ', H', J, q⟩ := hs
    exact fin (v := V.non) (u := Value.none) J rfl q
  | brk =>
    obtain ⟨_, _, _, q⟩ := hs
    exact False.elim q
  | cont =>
    obtain ⟨_, _, _, q⟩ := hs
    exact False.elim q
end
end SI

namespace K27
open PySem L2
def top (i : Nat) : Stmt := PySem.Challenge.pw_stamprules_k27_whole_closed_table.main.body.getD i (.Pass ⟨0, 0, 0, 0⟩)
abbrev s_BadEntry_init : Stmt := inClass (top 3) 0
abbrev s_BadAnswer_init : Stmt := inClass (top 4) 0
abbrev s_BadSetting_init : Stmt := inClass (top 5) 0
abbrev s_BadStep_init : Stmt := inClass (top 6) 0
abbrev s_Item_init : Stmt := inClass (top 12) 0
abbrev s_State_init : Stmt := inClass (top 13) 0
abbrev s_Book_init : Stmt := inClass (top 74) 0
abbrev s_Book_ends : Stmt := inClass (top 74) 1
abbrev s_Book_keep : Stmt := inClass (top 74) 2
abbrev s_Book_getitem : Stmt := inClass (top 74) 4
abbrev s_is_stamp : Stmt := top 9
abbrev s_place : Stmt := top 10
abbrev s_first_state : Stmt := top 14
abbrev s_item_of : Stmt := top 15
abbrev s_ascending : Stmt := top 16
abbrev s_taken : Stmt := top 17
abbrev s_committed : Stmt := top 18
abbrev s_settled : Stmt := top 19
abbrev s_aborted : Stmt := top 20
abbrev s_without : Stmt := top 21
abbrev s_falling : Stmt := top 22
abbrev s_released : Stmt := top 23
abbrev s_requested : Stmt := top 24
abbrev s_asked : Stmt := top 25
abbrev s_entry_met : Stmt := top 26
abbrev s_fixed_answer : Stmt := top 27
abbrev s_older_values : Stmt := top 28
abbrev s_value_read : Stmt := top 29
abbrev s_binds : Stmt := top 30
abbrev s_with_bond : Stmt := top 31
abbrev s_with_reader : Stmt := top 32
abbrev s_with_item : Stmt := top 33
abbrev s_fault : Stmt := top 42
abbrev s_traced : Stmt := top 44
abbrev s_is_serial : Stmt := top 45
abbrev s_requests_granted : Stmt := top 46
abbrev s_check_run : Stmt := top 47
abbrev s_is_step : Stmt := top 48
abbrev s_is_name : Stmt := top 49
abbrev s_steps_of : Stmt := top 50
abbrev s_is_numeral : Stmt := top 51
abbrev s_fault_runs : Stmt := top 57
abbrev s_shortest_first : Stmt := top 60
abbrev s_followed : Stmt := top 61
abbrev s_ways : Stmt := top 62
abbrev s_answers_at : Stmt := top 69
abbrev s_check_answer : Stmt := top 71
abbrev s_is_keep : Stmt := top 72
abbrev s_erring : Stmt := top 76
abbrev s_first_that : Stmt := top 77
abbrev s_has_fault : Stmt := top 78
abbrev s_law_cell : Stmt := top 80
abbrev s_law_row : Stmt := top 81
abbrev s_law_entries : Stmt := top 82
abbrev s_law_choices : Stmt := top 83
abbrev s_law_table : Stmt := top 84
abbrev s_law_fits : Stmt := top 85
abbrev s_law_sound : Stmt := top 86
abbrev s_law_terms : Stmt := top 87
abbrev s_law_clean : Stmt := top 88
abbrev s_law : Stmt := top 89
/-- what isinstance asks of an own class -/
structure IsI (K : PySem.W.Frag) (C : Addr) : Prop where
  ha : PySem.W.findIn K (.ref C) "__class__" = some (some (.builtin "object.__class__"))
  hm : PySem.W.mroIn K C (.type "object") = some true
structure IsG (K : PySem.W.Frag) : Prop where
  hn : PySem.W.specialIn K (.builtin "object.__class__") "__get__" = some (some (.builtin "getset_descriptor.__get__"))
  ht : PySem.W.takesIn K (.builtin "object.__class__") = some true
/-- what the top has written -/
structure Txt (w : World) (K : PySem.W.Frag) (mg : Str → Option Value) where
  isg : IsG K
  c_StampError : Addr
  g_StampError : mg "StampError" = some (.ref c_StampError)
  k_StampError : PySem.W.keepIn K (.ref c_StampError) = true
  c_BadEntry : Addr
  g_BadEntry : mg "BadEntry" = some (.ref c_BadEntry)
  k_BadEntry : PySem.W.keepIn K (.ref c_BadEntry) = true
  c_BadAnswer : Addr
  g_BadAnswer : mg "BadAnswer" = some (.ref c_BadAnswer)
  k_BadAnswer : PySem.W.keepIn K (.ref c_BadAnswer) = true
  c_BadSetting : Addr
  g_BadSetting : mg "BadSetting" = some (.ref c_BadSetting)
  k_BadSetting : PySem.W.keepIn K (.ref c_BadSetting) = true
  c_BadStep : Addr
  g_BadStep : mg "BadStep" = some (.ref c_BadStep)
  k_BadStep : PySem.W.keepIn K (.ref c_BadStep) = true
  c_Item : Addr
  g_Item : mg "Item" = some (.ref c_Item)
  k_Item : PySem.W.keepIn K (.ref c_Item) = true
  c_State : Addr
  g_State : mg "State" = some (.ref c_State)
  k_State : PySem.W.keepIn K (.ref c_State) = true
  c_Book : Addr
  g_Book : mg "Book" = some (.ref c_Book)
  k_Book : PySem.W.keepIn K (.ref c_Book) = true
  oex_StampError : OexC K c_StampError
  excc_StampError : ExcC K c_StampError
  xfc_StampError : XfC K c_StampError
  exm_StampError_StampError : PySem.W.exmOne K (.ref c_StampError) (.ref c_StampError) = some true
  kit_StampError_StampError : PySem.W.kitOne K (.ref c_StampError) (.ref c_StampError) = some true
  exm_StampError_BadEntry : PySem.W.exmOne K (.ref c_StampError) (.ref c_BadEntry) = some false
  kit_StampError_BadEntry : PySem.W.kitOne K (.ref c_StampError) (.ref c_BadEntry) = some false
  exm_StampError_BadAnswer : PySem.W.exmOne K (.ref c_StampError) (.ref c_BadAnswer) = some false
  kit_StampError_BadAnswer : PySem.W.kitOne K (.ref c_StampError) (.ref c_BadAnswer) = some false
  exm_StampError_BadSetting : PySem.W.exmOne K (.ref c_StampError) (.ref c_BadSetting) = some false
  kit_StampError_BadSetting : PySem.W.kitOne K (.ref c_StampError) (.ref c_BadSetting) = some false
  exm_StampError_BadStep : PySem.W.exmOne K (.ref c_StampError) (.ref c_BadStep) = some false
  kit_StampError_BadStep : PySem.W.kitOne K (.ref c_StampError) (.ref c_BadStep) = some false
  kit_StampError_VE : PySem.W.kitOne K (.ref c_StampError) (.type "ValueError") = some true
  oex_BadEntry : OexC K c_BadEntry
  excc_BadEntry : ExcC K c_BadEntry
  xfc_BadEntry : XfC K c_BadEntry
  exm_BadEntry_StampError : PySem.W.exmOne K (.ref c_BadEntry) (.ref c_StampError) = some true
  kit_BadEntry_StampError : PySem.W.kitOne K (.ref c_BadEntry) (.ref c_StampError) = some true
  exm_BadEntry_BadEntry : PySem.W.exmOne K (.ref c_BadEntry) (.ref c_BadEntry) = some true
  kit_BadEntry_BadEntry : PySem.W.kitOne K (.ref c_BadEntry) (.ref c_BadEntry) = some true
  exm_BadEntry_BadAnswer : PySem.W.exmOne K (.ref c_BadEntry) (.ref c_BadAnswer) = some false
  kit_BadEntry_BadAnswer : PySem.W.kitOne K (.ref c_BadEntry) (.ref c_BadAnswer) = some false
  exm_BadEntry_BadSetting : PySem.W.exmOne K (.ref c_BadEntry) (.ref c_BadSetting) = some false
  kit_BadEntry_BadSetting : PySem.W.kitOne K (.ref c_BadEntry) (.ref c_BadSetting) = some false
  exm_BadEntry_BadStep : PySem.W.exmOne K (.ref c_BadEntry) (.ref c_BadStep) = some false
  kit_BadEntry_BadStep : PySem.W.kitOne K (.ref c_BadEntry) (.ref c_BadStep) = some false
  kit_BadEntry_VE : PySem.W.kitOne K (.ref c_BadEntry) (.type "ValueError") = some true
  na_BadEntry_entry : NoAttr K c_BadEntry "entry"
  oex_BadAnswer : OexC K c_BadAnswer
  excc_BadAnswer : ExcC K c_BadAnswer
  xfc_BadAnswer : XfC K c_BadAnswer
  exm_BadAnswer_StampError : PySem.W.exmOne K (.ref c_BadAnswer) (.ref c_StampError) = some true
  kit_BadAnswer_StampError : PySem.W.kitOne K (.ref c_BadAnswer) (.ref c_StampError) = some true
  exm_BadAnswer_BadEntry : PySem.W.exmOne K (.ref c_BadAnswer) (.ref c_BadEntry) = some false
  kit_BadAnswer_BadEntry : PySem.W.kitOne K (.ref c_BadAnswer) (.ref c_BadEntry) = some false
  exm_BadAnswer_BadAnswer : PySem.W.exmOne K (.ref c_BadAnswer) (.ref c_BadAnswer) = some true
  kit_BadAnswer_BadAnswer : PySem.W.kitOne K (.ref c_BadAnswer) (.ref c_BadAnswer) = some true
  exm_BadAnswer_BadSetting : PySem.W.exmOne K (.ref c_BadAnswer) (.ref c_BadSetting) = some false
  kit_BadAnswer_BadSetting : PySem.W.kitOne K (.ref c_BadAnswer) (.ref c_BadSetting) = some false
  exm_BadAnswer_BadStep : PySem.W.exmOne K (.ref c_BadAnswer) (.ref c_BadStep) = some false
  kit_BadAnswer_BadStep : PySem.W.kitOne K (.ref c_BadAnswer) (.ref c_BadStep) = some false
  kit_BadAnswer_VE : PySem.W.kitOne K (.ref c_BadAnswer) (.type "ValueError") = some true
  na_BadAnswer_answer : NoAttr K c_BadAnswer "answer"
  na_BadAnswer_entry : NoAttr K c_BadAnswer "entry"
  oex_BadSetting : OexC K c_BadSetting
  excc_BadSetting : ExcC K c_BadSetting
  xfc_BadSetting : XfC K c_BadSetting
  exm_BadSetting_StampError : PySem.W.exmOne K (.ref c_BadSetting) (.ref c_StampError) = some true
  kit_BadSetting_StampError : PySem.W.kitOne K (.ref c_BadSetting) (.ref c_StampError) = some true
  exm_BadSetting_BadEntry : PySem.W.exmOne K (.ref c_BadSetting) (.ref c_BadEntry) = some false
  kit_BadSetting_BadEntry : PySem.W.kitOne K (.ref c_BadSetting) (.ref c_BadEntry) = some false
  exm_BadSetting_BadAnswer : PySem.W.exmOne K (.ref c_BadSetting) (.ref c_BadAnswer) = some false
  kit_BadSetting_BadAnswer : PySem.W.kitOne K (.ref c_BadSetting) (.ref c_BadAnswer) = some false
  exm_BadSetting_BadSetting : PySem.W.exmOne K (.ref c_BadSetting) (.ref c_BadSetting) = some true
  kit_BadSetting_BadSetting : PySem.W.kitOne K (.ref c_BadSetting) (.ref c_BadSetting) = some true
  exm_BadSetting_BadStep : PySem.W.exmOne K (.ref c_BadSetting) (.ref c_BadStep) = some false
  kit_BadSetting_BadStep : PySem.W.kitOne K (.ref c_BadSetting) (.ref c_BadStep) = some false
  kit_BadSetting_VE : PySem.W.kitOne K (.ref c_BadSetting) (.type "ValueError") = some true
  na_BadSetting_given : NoAttr K c_BadSetting "given"
  oex_BadStep : OexC K c_BadStep
  excc_BadStep : ExcC K c_BadStep
  xfc_BadStep : XfC K c_BadStep
  exm_BadStep_StampError : PySem.W.exmOne K (.ref c_BadStep) (.ref c_StampError) = some true
  kit_BadStep_StampError : PySem.W.kitOne K (.ref c_BadStep) (.ref c_StampError) = some true
  exm_BadStep_BadEntry : PySem.W.exmOne K (.ref c_BadStep) (.ref c_BadEntry) = some false
  kit_BadStep_BadEntry : PySem.W.kitOne K (.ref c_BadStep) (.ref c_BadEntry) = some false
  exm_BadStep_BadAnswer : PySem.W.exmOne K (.ref c_BadStep) (.ref c_BadAnswer) = some false
  kit_BadStep_BadAnswer : PySem.W.kitOne K (.ref c_BadStep) (.ref c_BadAnswer) = some false
  exm_BadStep_BadSetting : PySem.W.exmOne K (.ref c_BadStep) (.ref c_BadSetting) = some false
  kit_BadStep_BadSetting : PySem.W.kitOne K (.ref c_BadStep) (.ref c_BadSetting) = some false
  exm_BadStep_BadStep : PySem.W.exmOne K (.ref c_BadStep) (.ref c_BadStep) = some true
  kit_BadStep_BadStep : PySem.W.kitOne K (.ref c_BadStep) (.ref c_BadStep) = some true
  kit_BadStep_VE : PySem.W.kitOne K (.ref c_BadStep) (.type "ValueError") = some true
  na_BadStep_index : NoAttr K c_BadStep "index"
  cl_Item : Cls K c_Item
  isi_Item : IsI K c_Item
  kit_Item : PySem.W.kitOne K (.ref c_Item) (.ref c_Item) = some true
  na_Item_holder : NoAttr K c_Item "holder"
  na_Item_kept : NoAttr K c_Item "kept"
  na_Item_reader : NoAttr K c_Item "reader"
  na_Item_value : NoAttr K c_Item "value"
  cl_State : Cls K c_State
  isi_State : IsI K c_State
  kit_State : PySem.W.kitOne K (.ref c_State) (.ref c_State) = some true
  na_State_bonds : NoAttr K c_State "bonds"
  na_State_over : NoAttr K c_State "over"
  na_State_store : NoAttr K c_State "store"
  cl_Book : Cls K c_Book
  isi_Book : IsI K c_Book
  kit_Book : PySem.W.kitOne K (.ref c_Book) (.ref c_Book) = some true
  na_Book__answers : NoAttr K c_Book "_answers"
  na_Book__ends : NoAttr K c_Book "_ends"
  na_Book__keep : NoAttr K c_Book "_keep"
  f_BadEntry_init : Addr
  d_BadEntry_init : FuncData
  cc_BadEntry_init : Addr
  cdr_BadEntry_init : Addr
  S_BadEntry_init : SI.SupT PySem.Challenge.rw_stamprules_k27_whole_closed_table.prog K mg c_BadEntry f_BadEntry_init cdr_BadEntry_init cc_BadEntry_init ⟨"__init__", "BadEntry.__init__", defArgs s_BadEntry_init, defBody s_BadEntry_init, defScope s_BadEntry_init, [(("__class__" : Str), cc_BadEntry_init)], cdr_BadEntry_init⟩ d_BadEntry_init
  i_BadEntry_init : PySem.W.findIn K (.ref c_BadEntry) "__init__" = some (some (.ref f_BadEntry_init))
  t_BadEntry_init : PySem.W.typeIn K (.ref f_BadEntry_init) = some (.type "function")
  f_BadAnswer_init : Addr
  d_BadAnswer_init : FuncData
  cc_BadAnswer_init : Addr
  cdr_BadAnswer_init : Addr
  S_BadAnswer_init : SI.SupT PySem.Challenge.rw_stamprules_k27_whole_closed_table.prog K mg c_BadAnswer f_BadAnswer_init cdr_BadAnswer_init cc_BadAnswer_init ⟨"__init__", "BadAnswer.__init__", defArgs s_BadAnswer_init, defBody s_BadAnswer_init, defScope s_BadAnswer_init, [(("__class__" : Str), cc_BadAnswer_init)], cdr_BadAnswer_init⟩ d_BadAnswer_init
  i_BadAnswer_init : PySem.W.findIn K (.ref c_BadAnswer) "__init__" = some (some (.ref f_BadAnswer_init))
  t_BadAnswer_init : PySem.W.typeIn K (.ref f_BadAnswer_init) = some (.type "function")
  f_BadSetting_init : Addr
  d_BadSetting_init : FuncData
  cc_BadSetting_init : Addr
  cdr_BadSetting_init : Addr
  S_BadSetting_init : SI.SupT PySem.Challenge.rw_stamprules_k27_whole_closed_table.prog K mg c_BadSetting f_BadSetting_init cdr_BadSetting_init cc_BadSetting_init ⟨"__init__", "BadSetting.__init__", defArgs s_BadSetting_init, defBody s_BadSetting_init, defScope s_BadSetting_init, [(("__class__" : Str), cc_BadSetting_init)], cdr_BadSetting_init⟩ d_BadSetting_init
  i_BadSetting_init : PySem.W.findIn K (.ref c_BadSetting) "__init__" = some (some (.ref f_BadSetting_init))
  t_BadSetting_init : PySem.W.typeIn K (.ref f_BadSetting_init) = some (.type "function")
  f_BadStep_init : Addr
  d_BadStep_init : FuncData
  cc_BadStep_init : Addr
  cdr_BadStep_init : Addr
  S_BadStep_init : SI.SupT PySem.Challenge.rw_stamprules_k27_whole_closed_table.prog K mg c_BadStep f_BadStep_init cdr_BadStep_init cc_BadStep_init ⟨"__init__", "BadStep.__init__", defArgs s_BadStep_init, defBody s_BadStep_init, defScope s_BadStep_init, [(("__class__" : Str), cc_BadStep_init)], cdr_BadStep_init⟩ d_BadStep_init
  i_BadStep_init : PySem.W.findIn K (.ref c_BadStep) "__init__" = some (some (.ref f_BadStep_init))
  t_BadStep_init : PySem.W.typeIn K (.ref f_BadStep_init) = some (.type "function")
  f_Item_init : Addr
  d_Item_init : FuncData
  F_Item_init : Fun K "__init__" "Item.__init__" s_Item_init f_Item_init d_Item_init
  m_Item_init : Meth K c_Item "__init__" f_Item_init
  mk_Item : Mk K c_Item f_Item_init
  f_State_init : Addr
  d_State_init : FuncData
  F_State_init : Fun K "__init__" "State.__init__" s_State_init f_State_init d_State_init
  m_State_init : Meth K c_State "__init__" f_State_init
  mk_State : Mk K c_State f_State_init
  f_Book_init : Addr
  d_Book_init : FuncData
  F_Book_init : FunD K "__init__" "Book.__init__" (defArgs s_Book_init) (defBody s_Book_init) (defScope s_Book_init) [.non] [("ends", .str "now"), ("keep", .int 1)] f_Book_init d_Book_init
  m_Book_init : Meth K c_Book "__init__" f_Book_init
  mk_Book : Mk K c_Book f_Book_init
  f_Book_ends : Addr
  d_Book_ends : FuncData
  pr_Book_ends : Addr
  p_Book_ends : PropOf K c_Book "ends" pr_Book_ends f_Book_ends
  F_Book_ends : Fun K "ends" "Book.ends" s_Book_ends f_Book_ends d_Book_ends
  f_Book_keep : Addr
  d_Book_keep : FuncData
  pr_Book_keep : Addr
  p_Book_keep : PropOf K c_Book "keep" pr_Book_keep f_Book_keep
  F_Book_keep : Fun K "keep" "Book.keep" s_Book_keep f_Book_keep d_Book_keep
  f_Book_getitem : Addr
  d_Book_getitem : FuncData
  F_Book_getitem : Fun K "__getitem__" "Book.__getitem__" s_Book_getitem f_Book_getitem d_Book_getitem
  m_Book_getitem : Meth K c_Book "__getitem__" f_Book_getitem
  nd_Book : PySem.W.mroIn K c_Book (.type "collections.deque") = some false
  fi_Book_getitem : PySem.W.fnIn K f_Book_getitem = true
  f_is_stamp : Addr
  d_is_stamp : FuncData
  F_is_stamp : FunD K "is_stamp" "is_stamp" (defArgs s_is_stamp) (defBody s_is_stamp) (defScope s_is_stamp) [.int 0] [] f_is_stamp d_is_stamp
  g_is_stamp : mg "is_stamp" = some (.ref f_is_stamp)
  f_place : Addr
  d_place : FuncData
  F_place : Fun K "place" "place" s_place f_place d_place
  g_place : mg "place" = some (.ref f_place)
  f_first_state : Addr
  d_first_state : FuncData
  F_first_state : Fun K "first_state" "first_state" s_first_state f_first_state d_first_state
  g_first_state : mg "first_state" = some (.ref f_first_state)
  f_item_of : Addr
  d_item_of : FuncData
  F_item_of : Fun K "item_of" "item_of" s_item_of f_item_of d_item_of
  g_item_of : mg "item_of" = some (.ref f_item_of)
  f_ascending : Addr
  d_ascending : FuncData
  F_ascending : Fun K "ascending" "ascending" s_ascending f_ascending d_ascending
  g_ascending : mg "ascending" = some (.ref f_ascending)
  f_taken : Addr
  d_taken : FuncData
  F_taken : Fun K "taken" "taken" s_taken f_taken d_taken
  g_taken : mg "taken" = some (.ref f_taken)
  f_committed : Addr
  d_committed : FuncData
  F_committed : Fun K "committed" "committed" s_committed f_committed d_committed
  g_committed : mg "committed" = some (.ref f_committed)
  f_settled : Addr
  d_settled : FuncData
  F_settled : Fun K "settled" "settled" s_settled f_settled d_settled
  g_settled : mg "settled" = some (.ref f_settled)
  f_aborted : Addr
  d_aborted : FuncData
  F_aborted : Fun K "aborted" "aborted" s_aborted f_aborted d_aborted
  g_aborted : mg "aborted" = some (.ref f_aborted)
  f_without : Addr
  d_without : FuncData
  F_without : Fun K "without" "without" s_without f_without d_without
  g_without : mg "without" = some (.ref f_without)
  f_falling : Addr
  d_falling : FuncData
  F_falling : Fun K "falling" "falling" s_falling f_falling d_falling
  g_falling : mg "falling" = some (.ref f_falling)
  f_released : Addr
  d_released : FuncData
  F_released : Fun K "released" "released" s_released f_released d_released
  g_released : mg "released" = some (.ref f_released)
  f_requested : Addr
  d_requested : FuncData
  F_requested : Fun K "requested" "requested" s_requested f_requested d_requested
  g_requested : mg "requested" = some (.ref f_requested)
  f_asked : Addr
  d_asked : FuncData
  F_asked : Fun K "asked" "asked" s_asked f_asked d_asked
  g_asked : mg "asked" = some (.ref f_asked)
  f_entry_met : Addr
  d_entry_met : FuncData
  F_entry_met : Fun K "entry_met" "entry_met" s_entry_met f_entry_met d_entry_met
  g_entry_met : mg "entry_met" = some (.ref f_entry_met)
  f_fixed_answer : Addr
  d_fixed_answer : FuncData
  F_fixed_answer : Fun K "fixed_answer" "fixed_answer" s_fixed_answer f_fixed_answer d_fixed_answer
  g_fixed_answer : mg "fixed_answer" = some (.ref f_fixed_answer)
  f_older_values : Addr
  d_older_values : FuncData
  F_older_values : Fun K "older_values" "older_values" s_older_values f_older_values d_older_values
  g_older_values : mg "older_values" = some (.ref f_older_values)
  f_value_read : Addr
  d_value_read : FuncData
  F_value_read : Fun K "value_read" "value_read" s_value_read f_value_read d_value_read
  g_value_read : mg "value_read" = some (.ref f_value_read)
  f_binds : Addr
  d_binds : FuncData
  F_binds : Fun K "binds" "binds" s_binds f_binds d_binds
  g_binds : mg "binds" = some (.ref f_binds)
  f_with_bond : Addr
  d_with_bond : FuncData
  F_with_bond : Fun K "with_bond" "with_bond" s_with_bond f_with_bond d_with_bond
  g_with_bond : mg "with_bond" = some (.ref f_with_bond)
  f_with_reader : Addr
  d_with_reader : FuncData
  F_with_reader : Fun K "with_reader" "with_reader" s_with_reader f_with_reader d_with_reader
  g_with_reader : mg "with_reader" = some (.ref f_with_reader)
  f_with_item : Addr
  d_with_item : FuncData
  F_with_item : Fun K "with_item" "with_item" s_with_item f_with_item d_with_item
  g_with_item : mg "with_item" = some (.ref f_with_item)
  f_fault : Addr
  d_fault : FuncData
  F_fault : Fun K "fault" "fault" s_fault f_fault d_fault
  g_fault : mg "fault" = some (.ref f_fault)
  f_traced : Addr
  d_traced : FuncData
  F_traced : Fun K "traced" "traced" s_traced f_traced d_traced
  g_traced : mg "traced" = some (.ref f_traced)
  f_is_serial : Addr
  d_is_serial : FuncData
  F_is_serial : Fun K "is_serial" "is_serial" s_is_serial f_is_serial d_is_serial
  g_is_serial : mg "is_serial" = some (.ref f_is_serial)
  f_requests_granted : Addr
  d_requests_granted : FuncData
  F_requests_granted : Fun K "requests_granted" "requests_granted" s_requests_granted f_requests_granted d_requests_granted
  g_requests_granted : mg "requests_granted" = some (.ref f_requests_granted)
  f_check_run : Addr
  d_check_run : FuncData
  F_check_run : Fun K "check_run" "check_run" s_check_run f_check_run d_check_run
  g_check_run : mg "check_run" = some (.ref f_check_run)
  f_is_step : Addr
  d_is_step : FuncData
  F_is_step : Fun K "is_step" "is_step" s_is_step f_is_step d_is_step
  g_is_step : mg "is_step" = some (.ref f_is_step)
  f_is_name : Addr
  d_is_name : FuncData
  F_is_name : Fun K "is_name" "is_name" s_is_name f_is_name d_is_name
  g_is_name : mg "is_name" = some (.ref f_is_name)
  f_steps_of : Addr
  d_steps_of : FuncData
  F_steps_of : FunD K "steps_of" "steps_of" (defArgs s_steps_of) (defBody s_steps_of) (defScope s_steps_of) [.str "x"] [] f_steps_of d_steps_of
  g_steps_of : mg "steps_of" = some (.ref f_steps_of)
  f_is_numeral : Addr
  d_is_numeral : FuncData
  F_is_numeral : Fun K "is_numeral" "is_numeral" s_is_numeral f_is_numeral d_is_numeral
  g_is_numeral : mg "is_numeral" = some (.ref f_is_numeral)
  f_fault_runs : Addr
  d_fault_runs : FuncData
  F_fault_runs : Fun K "fault_runs" "fault_runs" s_fault_runs f_fault_runs d_fault_runs
  g_fault_runs : mg "fault_runs" = some (.ref f_fault_runs)
  f_shortest_first : Addr
  d_shortest_first : FuncData
  F_shortest_first : Fun K "shortest_first" "shortest_first" s_shortest_first f_shortest_first d_shortest_first
  g_shortest_first : mg "shortest_first" = some (.ref f_shortest_first)
  f_followed : Addr
  d_followed : FuncData
  F_followed : Fun K "followed" "followed" s_followed f_followed d_followed
  g_followed : mg "followed" = some (.ref f_followed)
  f_ways : Addr
  d_ways : FuncData
  F_ways : Fun K "ways" "ways" s_ways f_ways d_ways
  g_ways : mg "ways" = some (.ref f_ways)
  f_answers_at : Addr
  d_answers_at : FuncData
  F_answers_at : Fun K "answers_at" "answers_at" s_answers_at f_answers_at d_answers_at
  g_answers_at : mg "answers_at" = some (.ref f_answers_at)
  f_check_answer : Addr
  d_check_answer : FuncData
  F_check_answer : Fun K "check_answer" "check_answer" s_check_answer f_check_answer d_check_answer
  g_check_answer : mg "check_answer" = some (.ref f_check_answer)
  f_is_keep : Addr
  d_is_keep : FuncData
  F_is_keep : Fun K "is_keep" "is_keep" s_is_keep f_is_keep d_is_keep
  g_is_keep : mg "is_keep" = some (.ref f_is_keep)
  f_erring : Addr
  d_erring : FuncData
  F_erring : Fun K "erring" "erring" s_erring f_erring d_erring
  g_erring : mg "erring" = some (.ref f_erring)
  f_first_that : Addr
  d_first_that : FuncData
  F_first_that : Fun K "first_that" "first_that" s_first_that f_first_that d_first_that
  g_first_that : mg "first_that" = some (.ref f_first_that)
  f_has_fault : Addr
  d_has_fault : FuncData
  F_has_fault : Fun K "has_fault" "has_fault" s_has_fault f_has_fault d_has_fault
  g_has_fault : mg "has_fault" = some (.ref f_has_fault)
  f_law_cell : Addr
  d_law_cell : FuncData
  F_law_cell : Fun K "_law_cell" "_law_cell" s_law_cell f_law_cell d_law_cell
  g_law_cell : mg "_law_cell" = some (.ref f_law_cell)
  f_law_row : Addr
  d_law_row : FuncData
  F_law_row : Fun K "_law_row" "_law_row" s_law_row f_law_row d_law_row
  g_law_row : mg "_law_row" = some (.ref f_law_row)
  f_law_entries : Addr
  d_law_entries : FuncData
  F_law_entries : Fun K "_law_entries" "_law_entries" s_law_entries f_law_entries d_law_entries
  g_law_entries : mg "_law_entries" = some (.ref f_law_entries)
  f_law_choices : Addr
  d_law_choices : FuncData
  F_law_choices : Fun K "_law_choices" "_law_choices" s_law_choices f_law_choices d_law_choices
  g_law_choices : mg "_law_choices" = some (.ref f_law_choices)
  f_law_table : Addr
  d_law_table : FuncData
  F_law_table : Fun K "_law_table" "_law_table" s_law_table f_law_table d_law_table
  g_law_table : mg "_law_table" = some (.ref f_law_table)
  f_law_fits : Addr
  d_law_fits : FuncData
  F_law_fits : Fun K "_law_fits" "_law_fits" s_law_fits f_law_fits d_law_fits
  g_law_fits : mg "_law_fits" = some (.ref f_law_fits)
  f_law_sound : Addr
  d_law_sound : FuncData
  F_law_sound : Fun K "_law_sound" "_law_sound" s_law_sound f_law_sound d_law_sound
  g_law_sound : mg "_law_sound" = some (.ref f_law_sound)
  f_law_terms : Addr
  d_law_terms : FuncData
  F_law_terms : Fun K "_law_terms" "_law_terms" s_law_terms f_law_terms d_law_terms
  g_law_terms : mg "_law_terms" = some (.ref f_law_terms)
  f_law_clean : Addr
  d_law_clean : FuncData
  F_law_clean : Fun K "_law_clean" "_law_clean" s_law_clean f_law_clean d_law_clean
  g_law_clean : mg "_law_clean" = some (.ref f_law_clean)
  f_law : Addr
  d_law : FuncData
  F_law : Fun K "law" "law" s_law f_law d_law
  g_law : mg "law" = some (.ref f_law)
  g_GREATEST : ∃ t, mg "GREATEST" = some (.int 1000000000000000000000000000000 t)
  g_DIGITS : ∃ t, mg "DIGITS" = some (.str "0123456789" t)
  g_SIGNS : ∃ t, mg "SIGNS" = some (.str "abcdefghijklmnopqrstuvwxyz0123456789" t)
  g_LONGEST_NAME : ∃ t, mg "LONGEST_NAME" = some (.int 8 t)
  g_MOST_DIGITS : ∃ t, mg "MOST_DIGITS" = some (.int 31 t)
  o_WORDS : Addr
  g_WORDS : mg "WORDS" = some (.ref o_WORDS)
  q_WORDS : ∃ es ep, K.lookup o_WORDS = some ⟨.type "dict", none, .dict es ep, #[]⟩ ∧ PySem.W.KeysLit w.params es.toList ∧ (o_WORDS == sysModules) = false ∧ es.toList.map (fun e => (e.key, e.val)) = es.toList.map (fun e => (e.key, e.val)) ∧ ∃ k0 k1 k2 k3 v0 v1 v2 v3, es.toList.map (fun e => (e.key, e.val)) = [(.str "r" k0, .str "read" v0), (.str "w" k1, .str "write" v1), (.str "c" k2, .str "commit" v2), (.str "a" k3, .str "abort" v3)]
  o_WAYS : Addr
  g_WAYS : mg "WAYS" = some (.ref o_WAYS)
  o0_WAYS : Addr
  q0_WAYS : ∀ H, SqT K H o0_WAYS [.str "w2 c2 r1"]
  o1_WAYS : Addr
  q1_WAYS : ∀ H, SqT K H o1_WAYS [.str "w2 c2 w3 r1"]
  o2_WAYS : Addr
  q2_WAYS : ∀ H, SqT K H o2_WAYS [.str "w2 r1"]
  o3_WAYS : Addr
  q3_WAYS : ∀ H, SqT K H o3_WAYS [.str "w1 r2"]
  o4_WAYS : Addr
  q4_WAYS : ∀ H, SqT K H o4_WAYS [.str "w2 c2 w1"]
  o5_WAYS : Addr
  q5_WAYS : ∀ H, SqT K H o5_WAYS [.str "w2 c2 w3 w1"]
  o6_WAYS : Addr
  q6_WAYS : ∀ H, SqT K H o6_WAYS [.str "w2 w1"]
  o7_WAYS : Addr
  q7_WAYS : ∀ H, SqT K H o7_WAYS [.str "w1 w2"]
  o8_WAYS : Addr
  q8_WAYS : ∀ H, SqT K H o8_WAYS [.str "r2 w1"]
  o9_WAYS : Addr
  q9_WAYS : ∀ H, SqT K H o9_WAYS [.str "w1 r2 w1", .str "r2 w1 w1"]
  o10_WAYS : Addr
  q10_WAYS : ∀ H, SqT K H o10_WAYS [.str "r2 w2 c2 w1"]
  o11_WAYS : Addr
  q11_WAYS : ∀ H, SqT K H o11_WAYS [.str "r2 w2 c2 w3 w1"]
  o12_WAYS : Addr
  q12_WAYS : ∀ H, SqT K H o12_WAYS [.str "r2 w2 w1"]
  o13_WAYS : Addr
  q13_WAYS : ∀ H, SqT K H o13_WAYS [.str "w1 r3 w2", .str "r3 w1 w2"]
  es_WAYS : Array DictEntry
  ep_WAYS : Nat
  kd_WAYS : KDict K w o_WAYS es_WAYS ep_WAYS
  kv_WAYS : Paired (fun (e : DictEntry) (q : Str × V) => (∃ t, e.key = .str q.1 t) ∧ RelV q.2 e.val) es_WAYS.toList [("read late", .ref o0_WAYS), ("read under", .ref o1_WAYS), ("read below", .ref o2_WAYS), ("read above", .ref o3_WAYS), ("write late", .ref o4_WAYS), ("write under", .ref o5_WAYS), ("write below", .ref o6_WAYS), ("write above", .ref o7_WAYS), ("write free passed", .ref o8_WAYS), ("write own passed", .ref o9_WAYS), ("write late passed", .ref o10_WAYS), ("write under passed", .ref o11_WAYS), ("write below passed", .ref o12_WAYS), ("write above passed", .ref o13_WAYS)]
  n0_WAYS : PySem.W.nsIn K o_WAYS "read late" = some (some (.ref o0_WAYS))
  n1_WAYS : PySem.W.nsIn K o_WAYS "read under" = some (some (.ref o1_WAYS))
  n2_WAYS : PySem.W.nsIn K o_WAYS "read below" = some (some (.ref o2_WAYS))
  n3_WAYS : PySem.W.nsIn K o_WAYS "read above" = some (some (.ref o3_WAYS))
  n4_WAYS : PySem.W.nsIn K o_WAYS "write late" = some (some (.ref o4_WAYS))
  n5_WAYS : PySem.W.nsIn K o_WAYS "write under" = some (some (.ref o5_WAYS))
  n6_WAYS : PySem.W.nsIn K o_WAYS "write below" = some (some (.ref o6_WAYS))
  n7_WAYS : PySem.W.nsIn K o_WAYS "write above" = some (some (.ref o7_WAYS))
  n8_WAYS : PySem.W.nsIn K o_WAYS "write free passed" = some (some (.ref o8_WAYS))
  n9_WAYS : PySem.W.nsIn K o_WAYS "write own passed" = some (some (.ref o9_WAYS))
  n10_WAYS : PySem.W.nsIn K o_WAYS "write late passed" = some (some (.ref o10_WAYS))
  n11_WAYS : PySem.W.nsIn K o_WAYS "write under passed" = some (some (.ref o11_WAYS))
  n12_WAYS : PySem.W.nsIn K o_WAYS "write below passed" = some (some (.ref o12_WAYS))
  n13_WAYS : PySem.W.nsIn K o_WAYS "write above passed" = some (some (.ref o13_WAYS))
  o_FAULTS_BEHIND : Addr
  g_FAULTS_BEHIND : mg "FAULTS_BEHIND" = some (.ref o_FAULTS_BEHIND)
  q_FAULTS_BEHIND : ∀ H, SqT K H o_FAULTS_BEHIND [.str "c1", .str "c2", .str "c1 c2", .str "c2 c1", .str "c3 c1"]
  o_FAULTS : Addr
  g_FAULTS : mg "FAULTS" = some (.ref o_FAULTS)
  q_FAULTS : ∀ H, SqT K H o_FAULTS [.str "w2 c2 w1 r1 c1", .str "w2 w1 r1 c2 c1", .str "w2 w1 c2 r1 c1", .str "w2 c2 w1 w3 r1 c1", .str "w2 c2 w3 w1 r1 c1", .str "w2 w1 c2 w3 r1 c1", .str "w2 c2 w3 w1 a3 r1 c1"]
  o_ENTRIES : Addr
  g_ENTRIES : mg "ENTRIES" = some (.ref o_ENTRIES)
  q_ENTRIES : ∀ H, SqT K H o_ENTRIES [.str "read late", .str "read under", .str "read below", .str "read above", .str "write late", .str "write under", .str "write below", .str "write above", .str "write free passed", .str "write own passed", .str "write late passed", .str "write under passed", .str "write below passed", .str "write above passed"]
  o_ANSWERS : Addr
  g_ANSWERS : mg "ANSWERS" = some (.ref o_ANSWERS)
  o0_ANSWERS : Addr
  q0_ANSWERS : ∀ H, SqT K H o0_ANSWERS [.str "last", .str "old", .str "abort"]
  o1_ANSWERS : Addr
  q1_ANSWERS : ∀ H, SqT K H o1_ANSWERS [.str "last", .str "old", .str "open", .str "wait", .str "abort"]
  o2_ANSWERS : Addr
  q2_ANSWERS : ∀ H, SqT K H o2_ANSWERS [.str "last", .str "open", .str "wait", .str "abort"]
  o3_ANSWERS : Addr
  q3_ANSWERS : ∀ H, SqT K H o3_ANSWERS [.str "last", .str "open", .str "wait", .str "abort"]
  o4_ANSWERS : Addr
  q4_ANSWERS : ∀ H, SqT K H o4_ANSWERS [.str "skip", .str "abort"]
  o5_ANSWERS : Addr
  q5_ANSWERS : ∀ H, SqT K H o5_ANSWERS [.str "skip", .str "wait", .str "wound", .str "abort"]
  o6_ANSWERS : Addr
  q6_ANSWERS : ∀ H, SqT K H o6_ANSWERS [.str "skip", .str "wait", .str "wound", .str "abort"]
  o7_ANSWERS : Addr
  q7_ANSWERS : ∀ H, SqT K H o7_ANSWERS [.str "skip", .str "wait", .str "wound", .str "abort"]
  o8_ANSWERS : Addr
  q8_ANSWERS : ∀ H, SqT K H o8_ANSWERS [.str "put", .str "abort"]
  o9_ANSWERS : Addr
  q9_ANSWERS : ∀ H, SqT K H o9_ANSWERS [.str "put", .str "abort"]
  o10_ANSWERS : Addr
  q10_ANSWERS : ∀ H, SqT K H o10_ANSWERS [.str "skip", .str "abort"]
  o11_ANSWERS : Addr
  q11_ANSWERS : ∀ H, SqT K H o11_ANSWERS [.str "skip", .str "wait", .str "wound", .str "abort"]
  o12_ANSWERS : Addr
  q12_ANSWERS : ∀ H, SqT K H o12_ANSWERS [.str "skip", .str "wait", .str "wound", .str "abort"]
  o13_ANSWERS : Addr
  q13_ANSWERS : ∀ H, SqT K H o13_ANSWERS [.str "skip", .str "wait", .str "wound", .str "abort"]
  es_ANSWERS : Array DictEntry
  ep_ANSWERS : Nat
  kd_ANSWERS : KDict K w o_ANSWERS es_ANSWERS ep_ANSWERS
  n0_ANSWERS : PySem.W.nsIn K o_ANSWERS "read late" = some (some (.ref o0_ANSWERS))
  n1_ANSWERS : PySem.W.nsIn K o_ANSWERS "read under" = some (some (.ref o1_ANSWERS))
  n2_ANSWERS : PySem.W.nsIn K o_ANSWERS "read below" = some (some (.ref o2_ANSWERS))
  n3_ANSWERS : PySem.W.nsIn K o_ANSWERS "read above" = some (some (.ref o3_ANSWERS))
  n4_ANSWERS : PySem.W.nsIn K o_ANSWERS "write late" = some (some (.ref o4_ANSWERS))
  n5_ANSWERS : PySem.W.nsIn K o_ANSWERS "write under" = some (some (.ref o5_ANSWERS))
  n6_ANSWERS : PySem.W.nsIn K o_ANSWERS "write below" = some (some (.ref o6_ANSWERS))
  n7_ANSWERS : PySem.W.nsIn K o_ANSWERS "write above" = some (some (.ref o7_ANSWERS))
  n8_ANSWERS : PySem.W.nsIn K o_ANSWERS "write free passed" = some (some (.ref o8_ANSWERS))
  n9_ANSWERS : PySem.W.nsIn K o_ANSWERS "write own passed" = some (some (.ref o9_ANSWERS))
  n10_ANSWERS : PySem.W.nsIn K o_ANSWERS "write late passed" = some (some (.ref o10_ANSWERS))
  n11_ANSWERS : PySem.W.nsIn K o_ANSWERS "write under passed" = some (some (.ref o11_ANSWERS))
  n12_ANSWERS : PySem.W.nsIn K o_ANSWERS "write below passed" = some (some (.ref o12_ANSWERS))
  n13_ANSWERS : PySem.W.nsIn K o_ANSWERS "write above passed" = some (some (.ref o13_ANSWERS))
  g_MOST_KEPT : ∃ t, mg "MOST_KEPT" = some (.int 20 t)
  n_all : mg "all" = none
  n_bool : mg "bool" = none
  n_dict : mg "dict" = none
  n_enumerate : mg "enumerate" = none
  n_int : mg "int" = none
  n_isinstance : mg "isinstance" = none
  n_len : mg "len" = none
  n_range : mg "range" = none
  n_sorted : mg "sorted" = none
  n_str : mg "str" = none
  n_super : mg "super" = none
  n_tuple : mg "tuple" = none
  n_zip : mg "zip" = none
theorem sc_BadEntry_init : NdefX.NScope ["self", "entry", "__class__"] ["self", "entry"] SI.sfr (defScope s_BadEntry_init) := NdefX.nscope_by (by decide +kernel)
theorem sc_BadAnswer_init : NdefX.NScope ["self", "entry", "answer", "__class__"] ["self", "entry", "answer"] SI.sfr (defScope s_BadAnswer_init) := NdefX.nscope_by (by decide +kernel)
theorem sc_BadSetting_init : NdefX.NScope ["self", "given", "__class__"] ["self", "given"] SI.sfr (defScope s_BadSetting_init) := NdefX.nscope_by (by decide +kernel)
theorem sc_BadStep_init : NdefX.NScope ["self", "index", "__class__"] ["self", "index"] SI.sfr (defScope s_BadStep_init) := NdefX.nscope_by (by decide +kernel)
theorem sc_Item_init : FnScope ["self", "kept", "holder", "value", "reader"] ["self", "kept", "holder", "value", "reader"] (defScope s_Item_init) := ⟨rfl, rfl, rfl, by decide +kernel, rfl, by decide +kernel, by decide +kernel⟩
theorem sc_State_init : FnScope ["self", "store", "over", "bonds"] ["self", "store", "over", "bonds"] (defScope s_State_init) := ⟨rfl, rfl, rfl, by decide +kernel, rfl, by decide +kernel, by decide +kernel⟩
theorem sc_Book_init : FnScope ["self", "answers", "ends", "keep", "entry", "given", "answer"] ["self", "answers", "ends", "keep"] (defScope s_Book_init) := ⟨rfl, rfl, rfl, by decide +kernel, rfl, by decide +kernel, by decide +kernel⟩
theorem sc_Book_ends : FnScope ["self"] ["self"] (defScope s_Book_ends) := ⟨rfl, rfl, rfl, by decide +kernel, rfl, by decide +kernel, by decide +kernel⟩
theorem sc_Book_keep : FnScope ["self"] ["self"] (defScope s_Book_keep) := ⟨rfl, rfl, rfl, by decide +kernel, rfl, by decide +kernel, by decide +kernel⟩
theorem sc_Book_getitem : FnScope ["self", "entry"] ["self", "entry"] (defScope s_Book_getitem) := ⟨rfl, rfl, rfl, by decide +kernel, rfl, by decide +kernel, by decide +kernel⟩
theorem sc_is_stamp : FnScope ["number", "least"] ["number", "least"] (defScope s_is_stamp) := ⟨rfl, rfl, rfl, by decide +kernel, rfl, by decide +kernel, by decide +kernel⟩
theorem sc_place : FnScope ["asker", "last", "holder"] ["asker", "last", "holder"] (defScope s_place) := ⟨rfl, rfl, rfl, by decide +kernel, rfl, by decide +kernel, by decide +kernel⟩
theorem sc_first_state : FnScope [] [] (defScope s_first_state) := ⟨rfl, rfl, rfl, by decide +kernel, rfl, by decide +kernel, by decide +kernel⟩
theorem sc_item_of : FnScope ["state", "name"] ["state", "name"] (defScope s_item_of) := ⟨rfl, rfl, rfl, by decide +kernel, rfl, by decide +kernel, by decide +kernel⟩
theorem sc_ascending : FnScope ["stamps", "stamp"] ["stamps"] (defScope s_ascending) := ⟨rfl, rfl, rfl, by decide +kernel, rfl, by decide +kernel, by decide +kernel⟩
theorem sc_taken : FnScope ["book", "state", "step", "value", "word", "stamp"] ["book", "state", "step", "value"] (defScope s_taken) := ⟨rfl, rfl, rfl, by decide +kernel, rfl, by decide +kernel, by decide +kernel⟩
theorem sc_committed : FnScope ["book", "state", "stamp", "bound", "holder", "holders", "over", "name", "item", "store"] ["book", "state", "stamp"] (defScope s_committed) := ⟨rfl, rfl, rfl, by decide +kernel, rfl, by decide +kernel, by decide +kernel⟩
theorem sc_settled : FnScope ["item", "stamp", "keep", "kept"] ["item", "stamp", "keep"] (defScope s_settled) := ⟨rfl, rfl, rfl, by decide +kernel, rfl, by decide +kernel, by decide +kernel⟩
theorem sc_aborted : FnScope ["state", "stamp", "met", "after", "fallen"] ["state", "stamp", "met"] (defScope s_aborted) := ⟨rfl, rfl, rfl, by decide +kernel, rfl, by decide +kernel, by decide +kernel⟩
theorem sc_without : FnScope ["state", "stamp", "fallen", "over", "each", "name", "item", "store"] ["state", "stamp"] (defScope s_without) := ⟨rfl, rfl, rfl, by decide +kernel, rfl, by decide +kernel, by decide +kernel⟩
theorem sc_falling : FnScope ["state", "stamp", "fallen", "at", "other", "holders"] ["state", "stamp"] (defScope s_falling) := ⟨rfl, rfl, rfl, by decide +kernel, rfl, by decide +kernel, by decide +kernel⟩
theorem sc_released : FnScope ["item", "fallen"] ["item", "fallen"] (defScope s_released) := ⟨rfl, rfl, rfl, by decide +kernel, rfl, by decide +kernel, by decide +kernel⟩
theorem sc_requested : FnScope ["book", "state", "step", "value", "between", "first", "word", "met", "_", "fallen", "after", "more", "returned", "others"] ["book", "state", "step", "value"] (defScope s_requested) := ⟨rfl, rfl, rfl, by decide +kernel, rfl, by decide +kernel, by decide +kernel⟩
theorem sc_asked : FnScope ["book", "state", "step", "value", "kind", "stamp", "name", "item", "spot", "entry", "met", "answer", "after", "fallen", "put"] ["book", "state", "step", "value"] (defScope s_asked) := ⟨rfl, rfl, rfl, by decide +kernel, rfl, by decide +kernel, by decide +kernel⟩
theorem sc_entry_met : FnScope ["kind", "spot", "passed"] ["kind", "spot", "passed"] (defScope s_entry_met) := ⟨rfl, rfl, rfl, by decide +kernel, rfl, by decide +kernel, by decide +kernel⟩
theorem sc_fixed_answer : FnScope ["kind", "spot"] ["kind", "spot"] (defScope s_fixed_answer) := ⟨rfl, rfl, rfl, by decide +kernel, rfl, by decide +kernel, by decide +kernel⟩
theorem sc_older_values : FnScope ["item", "stamp", "writer", "value"] ["item", "stamp"] (defScope s_older_values) := ⟨rfl, rfl, rfl, by decide +kernel, rfl, by decide +kernel, by decide +kernel⟩
theorem sc_value_read : FnScope ["item", "stamp", "answer"] ["item", "stamp", "answer"] (defScope s_value_read) := ⟨rfl, rfl, rfl, by decide +kernel, rfl, by decide +kernel, by decide +kernel⟩
theorem sc_binds : FnScope ["ends", "spot", "answer"] ["ends", "spot", "answer"] (defScope s_binds) := ⟨rfl, rfl, rfl, by decide +kernel, rfl, by decide +kernel, by decide +kernel⟩
theorem sc_with_bond : FnScope ["state", "stamp", "holder", "bound", "bonds"] ["state", "stamp", "holder"] (defScope s_with_bond) := ⟨rfl, rfl, rfl, by decide +kernel, rfl, by decide +kernel, by decide +kernel⟩
theorem sc_with_reader : FnScope ["state", "name", "stamp", "item"] ["state", "name", "stamp"] (defScope s_with_reader) := ⟨rfl, rfl, rfl, by decide +kernel, rfl, by decide +kernel, by decide +kernel⟩
theorem sc_with_item : FnScope ["state", "name", "item", "store"] ["state", "name", "item"] (defScope s_with_item) := ⟨rfl, rfl, rfl, by decide +kernel, rfl, by decide +kernel, by decide +kernel⟩
theorem sc_fault : FnScope ["book", "run", "trace", "_", "outcome", "outcomes", "number", "after"] ["book", "run"] (defScope s_fault) := ⟨rfl, rfl, rfl, by decide +kernel, rfl, by decide +kernel, by decide +kernel⟩
theorem sc_traced : FnScope ["book", "run", "state", "trace", "number", "step", "after", "outcome"] ["book", "run"] (defScope s_traced) := ⟨rfl, rfl, rfl, by decide +kernel, rfl, by decide +kernel, by decide +kernel⟩
theorem sc_is_serial : FnScope ["run", "outcomes", "state", "granted", "values", "stamp", "kind", "name", "value"] ["run", "outcomes", "state"] (defScope s_is_serial) := ⟨rfl, rfl, rfl, by decide +kernel, rfl, by decide +kernel, by decide +kernel⟩
theorem sc_requests_granted : FnScope ["run", "outcomes", "granted", "number", "step", "outcome", "word", "_", "value", "kind", "stamp", "name", "earlier"] ["run", "outcomes"] (defScope s_requests_granted) := ⟨rfl, rfl, rfl, by decide +kernel, rfl, by decide +kernel, by decide +kernel⟩
theorem sc_check_run : FnScope ["run", "index", "part"] ["run"] (defScope s_check_run) := ⟨rfl, rfl, rfl, by decide +kernel, rfl, by decide +kernel, by decide +kernel⟩
theorem sc_is_step : FnScope ["part"] ["part"] (defScope s_is_step) := ⟨rfl, rfl, rfl, by decide +kernel, rfl, by decide +kernel, by decide +kernel⟩
theorem sc_is_name : FnScope ["name", "sign"] ["name"] (defScope s_is_name) := ⟨rfl, rfl, rfl, by decide +kernel, rfl, by decide +kernel, by decide +kernel⟩
theorem sc_steps_of : FnScope ["text", "item", "run", "index", "word", "kind", "stamp"] ["text", "item"] (defScope s_steps_of) := ⟨rfl, rfl, rfl, by decide +kernel, rfl, by decide +kernel, by decide +kernel⟩
theorem sc_is_numeral : FnScope ["digits", "digit"] ["digits"] (defScope s_is_numeral) := ⟨rfl, rfl, rfl, by decide +kernel, rfl, by decide +kernel, by decide +kernel⟩
theorem sc_fault_runs : FnScope [] [] (defScope s_fault_runs) := ⟨rfl, rfl, rfl, by decide +kernel, rfl, by decide +kernel, by decide +kernel⟩
theorem sc_shortest_first : FnScope ["texts", "text"] ["texts"] (defScope s_shortest_first) := ⟨rfl, rfl, rfl, by decide +kernel, rfl, by decide +kernel, by decide +kernel⟩
theorem sc_followed : FnScope ["texts", "ends", "text", "end"] ["texts", "ends"] (defScope s_followed) := ⟨rfl, rfl, rfl, by decide +kernel, rfl, by decide +kernel, by decide +kernel⟩
theorem sc_ways : FnScope ["texts", "text"] [] (defScope s_ways) := ⟨rfl, rfl, rfl, by decide +kernel, rfl, by decide +kernel, by decide +kernel⟩
theorem sc_answers_at : FnScope ["entry"] ["entry"] (defScope s_answers_at) := ⟨rfl, rfl, rfl, by decide +kernel, rfl, by decide +kernel, by decide +kernel⟩
theorem sc_check_answer : FnScope ["entry", "answer"] ["entry", "answer"] (defScope s_check_answer) := ⟨rfl, rfl, rfl, by decide +kernel, rfl, by decide +kernel, by decide +kernel⟩
theorem sc_is_keep : FnScope ["keep"] ["keep"] (defScope s_is_keep) := ⟨rfl, rfl, rfl, by decide +kernel, rfl, by decide +kernel, by decide +kernel⟩
theorem sc_erring : FnScope ["book"] ["book"] (defScope s_erring) := ⟨rfl, rfl, rfl, by decide +kernel, rfl, by decide +kernel, by decide +kernel⟩
theorem sc_first_that : FnScope ["shows", "book", "runs", "run"] ["shows", "book", "runs"] (defScope s_first_that) := ⟨rfl, rfl, rfl, by decide +kernel, rfl, by decide +kernel, by decide +kernel⟩
theorem sc_has_fault : FnScope ["book", "run"] ["book", "run"] (defScope s_has_fault) := ⟨rfl, rfl, rfl, by decide +kernel, rfl, by decide +kernel, by decide +kernel⟩
theorem sc_law_cell : FnScope ["_law_script", "_law_k"] ["_law_script", "_law_k"] (defScope s_law_cell) := ⟨rfl, rfl, rfl, by decide +kernel, rfl, by decide +kernel, by decide +kernel⟩
theorem sc_law_row : FnScope ["_law_cell_here", "_law_count", "_law_base", "_law_row_here", "_law_rest", "_law_mixed", "_law_k"] ["_law_cell_here", "_law_count", "_law_base"] (defScope s_law_row) := ⟨rfl, rfl, rfl, by decide +kernel, rfl, by decide +kernel, by decide +kernel⟩
theorem sc_law_entries : FnScope ["_law_names"] [] (defScope s_law_entries) := ⟨rfl, rfl, rfl, by decide +kernel, rfl, by decide +kernel, by decide +kernel⟩
theorem sc_law_choices : FnScope ["_law_name"] ["_law_name"] (defScope s_law_choices) := ⟨rfl, rfl, rfl, by decide +kernel, rfl, by decide +kernel, by decide +kernel⟩
theorem sc_law_table : FnScope ["_law_cell_here", "_law_table_here", "_law_names", "_law_draws", "_law_k", "_law_options"] ["_law_cell_here"] (defScope s_law_table) := ⟨rfl, rfl, rfl, by decide +kernel, rfl, by decide +kernel, by decide +kernel⟩
theorem sc_law_fits : FnScope ["_law_name", "_law_answer", "_law_flags", "_law_lifted", "_law_under", "_law_older", "_law_skips"] ["_law_name", "_law_answer", "_law_flags"] (defScope s_law_fits) := ⟨rfl, rfl, rfl, by decide +kernel, rfl, by decide +kernel, by decide +kernel⟩
theorem sc_law_sound : FnScope ["_law_cell_here", "_law_rule", "_law_kept", "_law_draws", "_law_lifted", "_law_under", "_law_older", "_law_flags", "_law_table_here", "_law_names", "_law_k", "_law_options", "_law_answer", "_law_good"] ["_law_cell_here", "_law_rule", "_law_kept"] (defScope s_law_sound) := ⟨rfl, rfl, rfl, by decide +kernel, rfl, by decide +kernel, by decide +kernel⟩
theorem sc_law_terms : FnScope ["_law_script", "_law_cell_here", "_law_rule", "_law_family", "_law_kept", "_law_table_here", "_law_name", "_law_options"] ["_law_script"] (defScope s_law_terms) := ⟨rfl, rfl, rfl, by decide +kernel, rfl, by decide +kernel, by decide +kernel⟩
theorem sc_law_clean : FnScope ["_law_table_here", "_law_rule", "_law_kept", "_law_name", "_law_answer", "_law_older", "_law_left"] ["_law_table_here", "_law_rule", "_law_kept"] (defScope s_law_clean) := ⟨rfl, rfl, rfl, by decide +kernel, rfl, by decide +kernel, by decide +kernel⟩
theorem sc_law : FnScope ["_law_script", "_law_terms_here", "_law_name", "_law_options", "_law_other", "_law_rule", "_law_kept", "_law_books", "_law_book", "_law_told"] ["_law_script"] (defScope s_law) := ⟨rfl, rfl, rfl, by decide +kernel, rfl, by decide +kernel, by decide +kernel⟩
section
variable {w : World} {K : PySem.W.Frag} {mg : Str → Option Value} (T : Txt w K mg)
include T
theorem b_BadEntry_init : Binds K T.d_BadEntry_init ["self", "entry"] [] := by
  obtain ⟨_, _, _, _, _, _, _, _, e, _⟩ := T.S_BadEntry_init.fn
  rw [e]
  exact .all fun us hl => match us, hl with | [_, _], _ => rfl
theorem b_BadAnswer_init : Binds K T.d_BadAnswer_init ["self", "entry", "answer"] [] := by
  obtain ⟨_, _, _, _, _, _, _, _, e, _⟩ := T.S_BadAnswer_init.fn
  rw [e]
  exact .all fun us hl => match us, hl with | [_, _, _], _ => rfl
theorem b_BadSetting_init : Binds K T.d_BadSetting_init ["self", "given"] [] := by
  obtain ⟨_, _, _, _, _, _, _, _, e, _⟩ := T.S_BadSetting_init.fn
  rw [e]
  exact .all fun us hl => match us, hl with | [_, _], _ => rfl
theorem b_BadStep_init : Binds K T.d_BadStep_init ["self", "index"] [] := by
  obtain ⟨_, _, _, _, _, _, _, _, e, _⟩ := T.S_BadStep_init.fn
  rw [e]
  exact .all fun us hl => match us, hl with | [_, _], _ => rfl
theorem b_Item_init : Binds K T.d_Item_init ["self", "kept", "holder", "value", "reader"] [] := T.F_Item_init.binds (ps := ["self", "kept", "holder", "value", "reader"]) fun _ _ _ _ _ _ us hl => match us, hl with | [_, _, _, _, _], _ => rfl
theorem b_State_init : Binds K T.d_State_init ["self", "store", "over", "bonds"] [] := T.F_State_init.binds (ps := ["self", "store", "over", "bonds"]) fun _ _ _ _ _ _ us hl => match us, hl with | [_, _, _, _], _ => rfl
theorem b_Book_ends : Binds K T.d_Book_ends ["self"] [] := T.F_Book_ends.binds (ps := ["self"]) fun _ _ _ _ _ _ us hl => match us, hl with | [_], _ => rfl
theorem b_Book_keep : Binds K T.d_Book_keep ["self"] [] := T.F_Book_keep.binds (ps := ["self"]) fun _ _ _ _ _ _ us hl => match us, hl with | [_], _ => rfl
theorem b_Book_getitem : Binds K T.d_Book_getitem ["self", "entry"] [] := T.F_Book_getitem.binds (ps := ["self", "entry"]) fun _ _ _ _ _ _ us hl => match us, hl with | [_, _], _ => rfl
theorem b0_is_stamp : ∃ ds, Vals [] ds ∧ Binds K T.d_is_stamp ["number", "least"] ds := T.F_is_stamp.binds1 2 1 (by simp) rfl fun _ _ _ _ _ _ _ us its hu hi => match us, hu, its, hi with | [_, _], _, [_], _ => ⟨_, rfl, rfl⟩
theorem b1_is_stamp : ∃ ds, Vals [.int 0] ds ∧ Binds K T.d_is_stamp ["number", "least"] ds := T.F_is_stamp.binds1 1 0 (by simp) rfl fun _ _ _ _ _ _ _ us its hu hi => match us, hu, its, hi with | [_], _, [_], _ => ⟨_, rfl, rfl⟩
theorem b_place : Binds K T.d_place ["asker", "last", "holder"] [] := T.F_place.binds (ps := ["asker", "last", "holder"]) fun _ _ _ _ _ _ us hl => match us, hl with | [_, _, _], _ => rfl
theorem b_first_state : Binds K T.d_first_state [] [] := T.F_first_state.binds (ps := []) fun _ _ _ _ _ _ us hl => match us, hl with | [], _ => rfl
theorem b_item_of : Binds K T.d_item_of ["state", "name"] [] := T.F_item_of.binds (ps := ["state", "name"]) fun _ _ _ _ _ _ us hl => match us, hl with | [_, _], _ => rfl
theorem b_ascending : Binds K T.d_ascending ["stamps"] [] := T.F_ascending.binds (ps := ["stamps"]) fun _ _ _ _ _ _ us hl => match us, hl with | [_], _ => rfl
theorem b_taken : Binds K T.d_taken ["book", "state", "step", "value"] [] := T.F_taken.binds (ps := ["book", "state", "step", "value"]) fun _ _ _ _ _ _ us hl => match us, hl with | [_, _, _, _], _ => rfl
theorem b_committed : Binds K T.d_committed ["book", "state", "stamp"] [] := T.F_committed.binds (ps := ["book", "state", "stamp"]) fun _ _ _ _ _ _ us hl => match us, hl with | [_, _, _], _ => rfl
theorem b_settled : Binds K T.d_settled ["item", "stamp", "keep"] [] := T.F_settled.binds (ps := ["item", "stamp", "keep"]) fun _ _ _ _ _ _ us hl => match us, hl with | [_, _, _], _ => rfl
theorem b_aborted : Binds K T.d_aborted ["state", "stamp", "met"] [] := T.F_aborted.binds (ps := ["state", "stamp", "met"]) fun _ _ _ _ _ _ us hl => match us, hl with | [_, _, _], _ => rfl
theorem b_without : Binds K T.d_without ["state", "stamp"] [] := T.F_without.binds (ps := ["state", "stamp"]) fun _ _ _ _ _ _ us hl => match us, hl with | [_, _], _ => rfl
theorem b_falling : Binds K T.d_falling ["state", "stamp"] [] := T.F_falling.binds (ps := ["state", "stamp"]) fun _ _ _ _ _ _ us hl => match us, hl with | [_, _], _ => rfl
theorem b_released : Binds K T.d_released ["item", "fallen"] [] := T.F_released.binds (ps := ["item", "fallen"]) fun _ _ _ _ _ _ us hl => match us, hl with | [_, _], _ => rfl
theorem b_requested : Binds K T.d_requested ["book", "state", "step", "value"] [] := T.F_requested.binds (ps := ["book", "state", "step", "value"]) fun _ _ _ _ _ _ us hl => match us, hl with | [_, _, _, _], _ => rfl
theorem b_asked : Binds K T.d_asked ["book", "state", "step", "value"] [] := T.F_asked.binds (ps := ["book", "state", "step", "value"]) fun _ _ _ _ _ _ us hl => match us, hl with | [_, _, _, _], _ => rfl
theorem b_entry_met : Binds K T.d_entry_met ["kind", "spot", "passed"] [] := T.F_entry_met.binds (ps := ["kind", "spot", "passed"]) fun _ _ _ _ _ _ us hl => match us, hl with | [_, _, _], _ => rfl
theorem b_fixed_answer : Binds K T.d_fixed_answer ["kind", "spot"] [] := T.F_fixed_answer.binds (ps := ["kind", "spot"]) fun _ _ _ _ _ _ us hl => match us, hl with | [_, _], _ => rfl
theorem b_older_values : Binds K T.d_older_values ["item", "stamp"] [] := T.F_older_values.binds (ps := ["item", "stamp"]) fun _ _ _ _ _ _ us hl => match us, hl with | [_, _], _ => rfl
theorem b_value_read : Binds K T.d_value_read ["item", "stamp", "answer"] [] := T.F_value_read.binds (ps := ["item", "stamp", "answer"]) fun _ _ _ _ _ _ us hl => match us, hl with | [_, _, _], _ => rfl
theorem b_binds : Binds K T.d_binds ["ends", "spot", "answer"] [] := T.F_binds.binds (ps := ["ends", "spot", "answer"]) fun _ _ _ _ _ _ us hl => match us, hl with | [_, _, _], _ => rfl
theorem b_with_bond : Binds K T.d_with_bond ["state", "stamp", "holder"] [] := T.F_with_bond.binds (ps := ["state", "stamp", "holder"]) fun _ _ _ _ _ _ us hl => match us, hl with | [_, _, _], _ => rfl
theorem b_with_reader : Binds K T.d_with_reader ["state", "name", "stamp"] [] := T.F_with_reader.binds (ps := ["state", "name", "stamp"]) fun _ _ _ _ _ _ us hl => match us, hl with | [_, _, _], _ => rfl
theorem b_with_item : Binds K T.d_with_item ["state", "name", "item"] [] := T.F_with_item.binds (ps := ["state", "name", "item"]) fun _ _ _ _ _ _ us hl => match us, hl with | [_, _, _], _ => rfl
theorem b_fault : Binds K T.d_fault ["book", "run"] [] := T.F_fault.binds (ps := ["book", "run"]) fun _ _ _ _ _ _ us hl => match us, hl with | [_, _], _ => rfl
theorem b_traced : Binds K T.d_traced ["book", "run"] [] := T.F_traced.binds (ps := ["book", "run"]) fun _ _ _ _ _ _ us hl => match us, hl with | [_, _], _ => rfl
theorem b_is_serial : Binds K T.d_is_serial ["run", "outcomes", "state"] [] := T.F_is_serial.binds (ps := ["run", "outcomes", "state"]) fun _ _ _ _ _ _ us hl => match us, hl with | [_, _, _], _ => rfl
theorem b_requests_granted : Binds K T.d_requests_granted ["run", "outcomes"] [] := T.F_requests_granted.binds (ps := ["run", "outcomes"]) fun _ _ _ _ _ _ us hl => match us, hl with | [_, _], _ => rfl
theorem b_check_run : Binds K T.d_check_run ["run"] [] := T.F_check_run.binds (ps := ["run"]) fun _ _ _ _ _ _ us hl => match us, hl with | [_], _ => rfl
theorem b_is_step : Binds K T.d_is_step ["part"] [] := T.F_is_step.binds (ps := ["part"]) fun _ _ _ _ _ _ us hl => match us, hl with | [_], _ => rfl
theorem b_is_name : Binds K T.d_is_name ["name"] [] := T.F_is_name.binds (ps := ["name"]) fun _ _ _ _ _ _ us hl => match us, hl with | [_], _ => rfl
theorem b0_steps_of : ∃ ds, Vals [] ds ∧ Binds K T.d_steps_of ["text", "item"] ds := T.F_steps_of.binds1 2 1 (by simp) rfl fun _ _ _ _ _ _ _ us its hu hi => match us, hu, its, hi with | [_, _], _, [_], _ => ⟨_, rfl, rfl⟩
theorem b1_steps_of : ∃ ds, Vals [.str "x"] ds ∧ Binds K T.d_steps_of ["text", "item"] ds := T.F_steps_of.binds1 1 0 (by simp) rfl fun _ _ _ _ _ _ _ us its hu hi => match us, hu, its, hi with | [_], _, [_], _ => ⟨_, rfl, rfl⟩
theorem b_is_numeral : Binds K T.d_is_numeral ["digits"] [] := T.F_is_numeral.binds (ps := ["digits"]) fun _ _ _ _ _ _ us hl => match us, hl with | [_], _ => rfl
theorem b_fault_runs : Binds K T.d_fault_runs [] [] := T.F_fault_runs.binds (ps := []) fun _ _ _ _ _ _ us hl => match us, hl with | [], _ => rfl
theorem b_shortest_first : Binds K T.d_shortest_first ["texts"] [] := T.F_shortest_first.binds (ps := ["texts"]) fun _ _ _ _ _ _ us hl => match us, hl with | [_], _ => rfl
theorem b_followed : Binds K T.d_followed ["texts", "ends"] [] := T.F_followed.binds (ps := ["texts", "ends"]) fun _ _ _ _ _ _ us hl => match us, hl with | [_, _], _ => rfl
theorem b_ways : Binds K T.d_ways [] [] := T.F_ways.binds (ps := []) fun _ _ _ _ _ _ us hl => match us, hl with | [], _ => rfl
theorem b_answers_at : Binds K T.d_answers_at ["entry"] [] := T.F_answers_at.binds (ps := ["entry"]) fun _ _ _ _ _ _ us hl => match us, hl with | [_], _ => rfl
theorem b_check_answer : Binds K T.d_check_answer ["entry", "answer"] [] := T.F_check_answer.binds (ps := ["entry", "answer"]) fun _ _ _ _ _ _ us hl => match us, hl with | [_, _], _ => rfl
theorem b_is_keep : Binds K T.d_is_keep ["keep"] [] := T.F_is_keep.binds (ps := ["keep"]) fun _ _ _ _ _ _ us hl => match us, hl with | [_], _ => rfl
theorem b_erring : Binds K T.d_erring ["book"] [] := T.F_erring.binds (ps := ["book"]) fun _ _ _ _ _ _ us hl => match us, hl with | [_], _ => rfl
theorem b_first_that : Binds K T.d_first_that ["shows", "book", "runs"] [] := T.F_first_that.binds (ps := ["shows", "book", "runs"]) fun _ _ _ _ _ _ us hl => match us, hl with | [_, _, _], _ => rfl
theorem b_has_fault : Binds K T.d_has_fault ["book", "run"] [] := T.F_has_fault.binds (ps := ["book", "run"]) fun _ _ _ _ _ _ us hl => match us, hl with | [_, _], _ => rfl
theorem b_law_cell : Binds K T.d_law_cell ["_law_script", "_law_k"] [] := T.F_law_cell.binds (ps := ["_law_script", "_law_k"]) fun _ _ _ _ _ _ us hl => match us, hl with | [_, _], _ => rfl
theorem b_law_row : Binds K T.d_law_row ["_law_cell_here", "_law_count", "_law_base"] [] := T.F_law_row.binds (ps := ["_law_cell_here", "_law_count", "_law_base"]) fun _ _ _ _ _ _ us hl => match us, hl with | [_, _, _], _ => rfl
theorem b_law_entries : Binds K T.d_law_entries [] [] := T.F_law_entries.binds (ps := []) fun _ _ _ _ _ _ us hl => match us, hl with | [], _ => rfl
theorem b_law_choices : Binds K T.d_law_choices ["_law_name"] [] := T.F_law_choices.binds (ps := ["_law_name"]) fun _ _ _ _ _ _ us hl => match us, hl with | [_], _ => rfl
theorem b_law_table : Binds K T.d_law_table ["_law_cell_here"] [] := T.F_law_table.binds (ps := ["_law_cell_here"]) fun _ _ _ _ _ _ us hl => match us, hl with | [_], _ => rfl
theorem b_law_fits : Binds K T.d_law_fits ["_law_name", "_law_answer", "_law_flags"] [] := T.F_law_fits.binds (ps := ["_law_name", "_law_answer", "_law_flags"]) fun _ _ _ _ _ _ us hl => match us, hl with | [_, _, _], _ => rfl
theorem b_law_sound : Binds K T.d_law_sound ["_law_cell_here", "_law_rule", "_law_kept"] [] := T.F_law_sound.binds (ps := ["_law_cell_here", "_law_rule", "_law_kept"]) fun _ _ _ _ _ _ us hl => match us, hl with | [_, _, _], _ => rfl
theorem b_law_terms : Binds K T.d_law_terms ["_law_script"] [] := T.F_law_terms.binds (ps := ["_law_script"]) fun _ _ _ _ _ _ us hl => match us, hl with | [_], _ => rfl
theorem b_law_clean : Binds K T.d_law_clean ["_law_table_here", "_law_rule", "_law_kept"] [] := T.F_law_clean.binds (ps := ["_law_table_here", "_law_rule", "_law_kept"]) fun _ _ _ _ _ _ us hl => match us, hl with | [_, _, _], _ => rfl
theorem b_law : Binds K T.d_law ["_law_script"] [] := T.F_law.binds (ps := ["_law_script"]) fun _ _ _ _ _ _ us hl => match us, hl with | [_], _ => rfl
end
theorem all_mk {w : World} {K : PySem.W.Frag} {h : Heap} {mg : Str → Option Value} {fa c_StampError c_BadEntry c_BadAnswer c_BadSetting c_BadStep c_Item c_State c_Book f_BadEntry_init f_BadAnswer_init f_BadSetting_init f_BadStep_init f_Item_init f_State_init f_Book_init f_Book_ends pr_Book_ends f_Book_keep pr_Book_keep f_Book_getitem f_is_stamp f_place f_first_state f_item_of f_ascending f_taken f_committed f_settled f_aborted f_without f_falling f_released f_requested f_asked f_entry_met f_fixed_answer f_older_values f_value_read f_binds f_with_bond f_with_reader f_with_item f_fault f_traced f_is_serial f_requests_granted f_check_run f_is_step f_is_name f_steps_of f_is_numeral f_fault_runs f_shortest_first f_followed f_ways f_answers_at f_check_answer f_is_keep f_erring f_first_that f_has_fault f_law_cell f_law_row f_law_entries f_law_choices f_law_table f_law_fits f_law_sound f_law_terms f_law_clean f_law o_WORDS o_WAYS o0_WAYS o1_WAYS o2_WAYS o3_WAYS o4_WAYS o5_WAYS o6_WAYS o7_WAYS o8_WAYS o9_WAYS o10_WAYS o11_WAYS o12_WAYS o13_WAYS o_FAULTS_BEHIND o_FAULTS o_ENTRIES o_ANSWERS o0_ANSWERS o1_ANSWERS o2_ANSWERS o3_ANSWERS o4_ANSWERS o5_ANSWERS o6_ANSWERS o7_ANSWERS o8_ANSWERS o9_ANSWERS o10_ANSWERS o11_ANSWERS o12_ANSWERS o13_ANSWERS : Addr} (X : K.In h) (G : h.Ns mainGlobals mg) (hfa : mg "law" = some (.ref fa))
    {nm_StampError q_StampError : Str} {N_StampError : Addr} {bs_StampError : List Value} {sn_StampError : List Str} {sub_StampError : List Value} {ab_StampError : Bool} {col_StampError : Option Bool} {dd_StampError : Option Addr} {m0_StampError m1_StampError m2_StampError m3_StampError m5_StampError : Option Value}
    {nm_BadEntry q_BadEntry : Str} {N_BadEntry : Addr} {bs_BadEntry : List Value} {sn_BadEntry : List Str} {sub_BadEntry : List Value} {ab_BadEntry : Bool} {col_BadEntry : Option Bool} {dd_BadEntry : Option Addr} {m0_BadEntry m1_BadEntry m2_BadEntry m3_BadEntry m5_BadEntry : Option Value}
    {nm_BadAnswer q_BadAnswer : Str} {N_BadAnswer : Addr} {bs_BadAnswer : List Value} {sn_BadAnswer : List Str} {sub_BadAnswer : List Value} {ab_BadAnswer : Bool} {col_BadAnswer : Option Bool} {dd_BadAnswer : Option Addr} {m0_BadAnswer m1_BadAnswer m2_BadAnswer m3_BadAnswer m5_BadAnswer : Option Value}
    {nm_BadSetting q_BadSetting : Str} {N_BadSetting : Addr} {bs_BadSetting : List Value} {sn_BadSetting : List Str} {sub_BadSetting : List Value} {ab_BadSetting : Bool} {col_BadSetting : Option Bool} {dd_BadSetting : Option Addr} {m0_BadSetting m1_BadSetting m2_BadSetting m3_BadSetting m5_BadSetting : Option Value}
    {nm_BadStep q_BadStep : Str} {N_BadStep : Addr} {bs_BadStep : List Value} {sn_BadStep : List Str} {sub_BadStep : List Value} {ab_BadStep : Bool} {col_BadStep : Option Bool} {dd_BadStep : Option Addr} {m0_BadStep m1_BadStep m2_BadStep m3_BadStep m5_BadStep : Option Value}
    {od_BadEntry_init an_BadEntry_init : Option Addr} {sl_BadEntry_init : Array (Option Value)} {oc_BadEntry_init kV_BadEntry_init dc_BadEntry_init pm_BadEntry_init ct_BadEntry_init : Value}
    {cc_BadEntry_init cdr_BadEntry_init : Addr} {ccl_BadEntry_init cdo_BadEntry_init : Value} {cdd_BadEntry_init cod_BadEntry_init : Option Addr} {ccs_BadEntry_init cos_BadEntry_init : Array (Option Value)} {cvs_BadEntry_init : Array Value} {cfile_BadEntry_init : Str} {ctk_BadEntry_init : Tok}
    {od_BadAnswer_init an_BadAnswer_init : Option Addr} {sl_BadAnswer_init : Array (Option Value)} {oc_BadAnswer_init kV_BadAnswer_init dc_BadAnswer_init pm_BadAnswer_init ct_BadAnswer_init : Value}
    {cc_BadAnswer_init cdr_BadAnswer_init : Addr} {ccl_BadAnswer_init cdo_BadAnswer_init : Value} {cdd_BadAnswer_init cod_BadAnswer_init : Option Addr} {ccs_BadAnswer_init cos_BadAnswer_init : Array (Option Value)} {cvs_BadAnswer_init : Array Value} {cfile_BadAnswer_init : Str} {ctk_BadAnswer_init : Tok}
    {od_BadSetting_init an_BadSetting_init : Option Addr} {sl_BadSetting_init : Array (Option Value)} {oc_BadSetting_init kV_BadSetting_init dc_BadSetting_init pm_BadSetting_init ct_BadSetting_init : Value}
    {cc_BadSetting_init cdr_BadSetting_init : Addr} {ccl_BadSetting_init cdo_BadSetting_init : Value} {cdd_BadSetting_init cod_BadSetting_init : Option Addr} {ccs_BadSetting_init cos_BadSetting_init : Array (Option Value)} {cvs_BadSetting_init : Array Value} {cfile_BadSetting_init : Str} {ctk_BadSetting_init : Tok}
    {od_BadStep_init an_BadStep_init : Option Addr} {sl_BadStep_init : Array (Option Value)} {oc_BadStep_init kV_BadStep_init dc_BadStep_init pm_BadStep_init ct_BadStep_init : Value}
    {cc_BadStep_init cdr_BadStep_init : Addr} {ccl_BadStep_init cdo_BadStep_init : Value} {cdd_BadStep_init cod_BadStep_init : Option Addr} {ccs_BadStep_init cos_BadStep_init : Array (Option Value)} {cvs_BadStep_init : Array Value} {cfile_BadStep_init : Str} {ctk_BadStep_init : Tok}
    {od_Item_init an_Item_init : Option Addr} {sl_Item_init : Array (Option Value)} {oc_Item_init kV_Item_init dc_Item_init pm_Item_init ct_Item_init : Value}
    {cd_Item_init : Value}
    {od_State_init an_State_init : Option Addr} {sl_State_init : Array (Option Value)} {oc_State_init kV_State_init dc_State_init pm_State_init ct_State_init : Value}
    {cd_State_init : Value}
    {od_Book_init an_Book_init : Option Addr} {sl_Book_init : Array (Option Value)} {oc_Book_init dc_Book_init pm_Book_init ct_Book_init : Value}
    {cd_Book_init : Value}
    {KD_Book_init : Addr}
    {tq0_Book_init : Tok}
    {tq1_Book_init : Tok}
    {T_Book_init : Addr} {Tn_Book_init : Nat}
    {Tc_Book_init : Value} {Td_Book_init : Option Addr} {Ts_Book_init : Array (Option Value)}
    {od_Book_ends an_Book_ends : Option Addr} {sl_Book_ends : Array (Option Value)} {oc_Book_ends kV_Book_ends dc_Book_ends pm_Book_ends ct_Book_ends : Value}
    {cd_Book_ends : Value}
    {rr_Book_ends : List Value}
    {od_Book_keep an_Book_keep : Option Addr} {sl_Book_keep : Array (Option Value)} {oc_Book_keep kV_Book_keep dc_Book_keep pm_Book_keep ct_Book_keep : Value}
    {cd_Book_keep : Value}
    {rr_Book_keep : List Value}
    {od_Book_getitem an_Book_getitem : Option Addr} {sl_Book_getitem : Array (Option Value)} {oc_Book_getitem kV_Book_getitem dc_Book_getitem pm_Book_getitem ct_Book_getitem : Value}
    {cd_Book_getitem : Value}
    {od_is_stamp an_is_stamp : Option Addr} {sl_is_stamp : Array (Option Value)} {oc_is_stamp kV_is_stamp dc_is_stamp pm_is_stamp ct_is_stamp : Value}
    {cd_is_stamp : Value}
    {T_is_stamp : Addr} {Tn_is_stamp : Nat}
    {tk0_is_stamp : Tok}
    {Tc_is_stamp : Value} {Td_is_stamp : Option Addr} {Ts_is_stamp : Array (Option Value)}
    {od_place an_place : Option Addr} {sl_place : Array (Option Value)} {oc_place kV_place dc_place pm_place ct_place : Value}
    {cd_place : Value}
    {od_first_state an_first_state : Option Addr} {sl_first_state : Array (Option Value)} {oc_first_state kV_first_state dc_first_state pm_first_state ct_first_state : Value}
    {cd_first_state : Value}
    {od_item_of an_item_of : Option Addr} {sl_item_of : Array (Option Value)} {oc_item_of kV_item_of dc_item_of pm_item_of ct_item_of : Value}
    {cd_item_of : Value}
    {od_ascending an_ascending : Option Addr} {sl_ascending : Array (Option Value)} {oc_ascending kV_ascending dc_ascending pm_ascending ct_ascending : Value}
    {cd_ascending : Value}
    {od_taken an_taken : Option Addr} {sl_taken : Array (Option Value)} {oc_taken kV_taken dc_taken pm_taken ct_taken : Value}
    {cd_taken : Value}
    {od_committed an_committed : Option Addr} {sl_committed : Array (Option Value)} {oc_committed kV_committed dc_committed pm_committed ct_committed : Value}
    {cd_committed : Value}
    {od_settled an_settled : Option Addr} {sl_settled : Array (Option Value)} {oc_settled kV_settled dc_settled pm_settled ct_settled : Value}
    {cd_settled : Value}
    {od_aborted an_aborted : Option Addr} {sl_aborted : Array (Option Value)} {oc_aborted kV_aborted dc_aborted pm_aborted ct_aborted : Value}
    {cd_aborted : Value}
    {od_without an_without : Option Addr} {sl_without : Array (Option Value)} {oc_without kV_without dc_without pm_without ct_without : Value}
    {cd_without : Value}
    {od_falling an_falling : Option Addr} {sl_falling : Array (Option Value)} {oc_falling kV_falling dc_falling pm_falling ct_falling : Value}
    {cd_falling : Value}
    {od_released an_released : Option Addr} {sl_released : Array (Option Value)} {oc_released kV_released dc_released pm_released ct_released : Value}
    {cd_released : Value}
    {od_requested an_requested : Option Addr} {sl_requested : Array (Option Value)} {oc_requested kV_requested dc_requested pm_requested ct_requested : Value}
    {cd_requested : Value}
    {od_asked an_asked : Option Addr} {sl_asked : Array (Option Value)} {oc_asked kV_asked dc_asked pm_asked ct_asked : Value}
    {cd_asked : Value}
    {od_entry_met an_entry_met : Option Addr} {sl_entry_met : Array (Option Value)} {oc_entry_met kV_entry_met dc_entry_met pm_entry_met ct_entry_met : Value}
    {cd_entry_met : Value}
    {od_fixed_answer an_fixed_answer : Option Addr} {sl_fixed_answer : Array (Option Value)} {oc_fixed_answer kV_fixed_answer dc_fixed_answer pm_fixed_answer ct_fixed_answer : Value}
    {cd_fixed_answer : Value}
    {od_older_values an_older_values : Option Addr} {sl_older_values : Array (Option Value)} {oc_older_values kV_older_values dc_older_values pm_older_values ct_older_values : Value}
    {cd_older_values : Value}
    {od_value_read an_value_read : Option Addr} {sl_value_read : Array (Option Value)} {oc_value_read kV_value_read dc_value_read pm_value_read ct_value_read : Value}
    {cd_value_read : Value}
    {od_binds an_binds : Option Addr} {sl_binds : Array (Option Value)} {oc_binds kV_binds dc_binds pm_binds ct_binds : Value}
    {cd_binds : Value}
    {od_with_bond an_with_bond : Option Addr} {sl_with_bond : Array (Option Value)} {oc_with_bond kV_with_bond dc_with_bond pm_with_bond ct_with_bond : Value}
    {cd_with_bond : Value}
    {od_with_reader an_with_reader : Option Addr} {sl_with_reader : Array (Option Value)} {oc_with_reader kV_with_reader dc_with_reader pm_with_reader ct_with_reader : Value}
    {cd_with_reader : Value}
    {od_with_item an_with_item : Option Addr} {sl_with_item : Array (Option Value)} {oc_with_item kV_with_item dc_with_item pm_with_item ct_with_item : Value}
    {cd_with_item : Value}
    {od_fault an_fault : Option Addr} {sl_fault : Array (Option Value)} {oc_fault kV_fault dc_fault pm_fault ct_fault : Value}
    {cd_fault : Value}
    {od_traced an_traced : Option Addr} {sl_traced : Array (Option Value)} {oc_traced kV_traced dc_traced pm_traced ct_traced : Value}
    {cd_traced : Value}
    {od_is_serial an_is_serial : Option Addr} {sl_is_serial : Array (Option Value)} {oc_is_serial kV_is_serial dc_is_serial pm_is_serial ct_is_serial : Value}
    {cd_is_serial : Value}
    {od_requests_granted an_requests_granted : Option Addr} {sl_requests_granted : Array (Option Value)} {oc_requests_granted kV_requests_granted dc_requests_granted pm_requests_granted ct_requests_granted : Value}
    {cd_requests_granted : Value}
    {od_check_run an_check_run : Option Addr} {sl_check_run : Array (Option Value)} {oc_check_run kV_check_run dc_check_run pm_check_run ct_check_run : Value}
    {cd_check_run : Value}
    {od_is_step an_is_step : Option Addr} {sl_is_step : Array (Option Value)} {oc_is_step kV_is_step dc_is_step pm_is_step ct_is_step : Value}
    {cd_is_step : Value}
    {od_is_name an_is_name : Option Addr} {sl_is_name : Array (Option Value)} {oc_is_name kV_is_name dc_is_name pm_is_name ct_is_name : Value}
    {cd_is_name : Value}
    {od_steps_of an_steps_of : Option Addr} {sl_steps_of : Array (Option Value)} {oc_steps_of kV_steps_of dc_steps_of pm_steps_of ct_steps_of : Value}
    {cd_steps_of : Value}
    {T_steps_of : Addr} {Tn_steps_of : Nat}
    {tk0_steps_of : Tok}
    {Tc_steps_of : Value} {Td_steps_of : Option Addr} {Ts_steps_of : Array (Option Value)}
    {od_is_numeral an_is_numeral : Option Addr} {sl_is_numeral : Array (Option Value)} {oc_is_numeral kV_is_numeral dc_is_numeral pm_is_numeral ct_is_numeral : Value}
    {cd_is_numeral : Value}
    {od_fault_runs an_fault_runs : Option Addr} {sl_fault_runs : Array (Option Value)} {oc_fault_runs kV_fault_runs dc_fault_runs pm_fault_runs ct_fault_runs : Value}
    {cd_fault_runs : Value}
    {od_shortest_first an_shortest_first : Option Addr} {sl_shortest_first : Array (Option Value)} {oc_shortest_first kV_shortest_first dc_shortest_first pm_shortest_first ct_shortest_first : Value}
    {cd_shortest_first : Value}
    {od_followed an_followed : Option Addr} {sl_followed : Array (Option Value)} {oc_followed kV_followed dc_followed pm_followed ct_followed : Value}
    {cd_followed : Value}
    {od_ways an_ways : Option Addr} {sl_ways : Array (Option Value)} {oc_ways kV_ways dc_ways pm_ways ct_ways : Value}
    {cd_ways : Value}
    {od_answers_at an_answers_at : Option Addr} {sl_answers_at : Array (Option Value)} {oc_answers_at kV_answers_at dc_answers_at pm_answers_at ct_answers_at : Value}
    {cd_answers_at : Value}
    {od_check_answer an_check_answer : Option Addr} {sl_check_answer : Array (Option Value)} {oc_check_answer kV_check_answer dc_check_answer pm_check_answer ct_check_answer : Value}
    {cd_check_answer : Value}
    {od_is_keep an_is_keep : Option Addr} {sl_is_keep : Array (Option Value)} {oc_is_keep kV_is_keep dc_is_keep pm_is_keep ct_is_keep : Value}
    {cd_is_keep : Value}
    {od_erring an_erring : Option Addr} {sl_erring : Array (Option Value)} {oc_erring kV_erring dc_erring pm_erring ct_erring : Value}
    {cd_erring : Value}
    {od_first_that an_first_that : Option Addr} {sl_first_that : Array (Option Value)} {oc_first_that kV_first_that dc_first_that pm_first_that ct_first_that : Value}
    {cd_first_that : Value}
    {od_has_fault an_has_fault : Option Addr} {sl_has_fault : Array (Option Value)} {oc_has_fault kV_has_fault dc_has_fault pm_has_fault ct_has_fault : Value}
    {cd_has_fault : Value}
    {od_law_cell an_law_cell : Option Addr} {sl_law_cell : Array (Option Value)} {oc_law_cell kV_law_cell dc_law_cell pm_law_cell ct_law_cell : Value}
    {cd_law_cell : Value}
    {od_law_row an_law_row : Option Addr} {sl_law_row : Array (Option Value)} {oc_law_row kV_law_row dc_law_row pm_law_row ct_law_row : Value}
    {cd_law_row : Value}
    {od_law_entries an_law_entries : Option Addr} {sl_law_entries : Array (Option Value)} {oc_law_entries kV_law_entries dc_law_entries pm_law_entries ct_law_entries : Value}
    {cd_law_entries : Value}
    {od_law_choices an_law_choices : Option Addr} {sl_law_choices : Array (Option Value)} {oc_law_choices kV_law_choices dc_law_choices pm_law_choices ct_law_choices : Value}
    {cd_law_choices : Value}
    {od_law_table an_law_table : Option Addr} {sl_law_table : Array (Option Value)} {oc_law_table kV_law_table dc_law_table pm_law_table ct_law_table : Value}
    {cd_law_table : Value}
    {od_law_fits an_law_fits : Option Addr} {sl_law_fits : Array (Option Value)} {oc_law_fits kV_law_fits dc_law_fits pm_law_fits ct_law_fits : Value}
    {cd_law_fits : Value}
    {od_law_sound an_law_sound : Option Addr} {sl_law_sound : Array (Option Value)} {oc_law_sound kV_law_sound dc_law_sound pm_law_sound ct_law_sound : Value}
    {cd_law_sound : Value}
    {od_law_terms an_law_terms : Option Addr} {sl_law_terms : Array (Option Value)} {oc_law_terms kV_law_terms dc_law_terms pm_law_terms ct_law_terms : Value}
    {cd_law_terms : Value}
    {od_law_clean an_law_clean : Option Addr} {sl_law_clean : Array (Option Value)} {oc_law_clean kV_law_clean dc_law_clean pm_law_clean ct_law_clean : Value}
    {cd_law_clean : Value}
    {od_law an_law : Option Addr} {sl_law : Array (Option Value)} {oc_law kV_law dc_law pm_law ct_law : Value}
    {cd_law : Value}
    {tk_GREATEST : Tok}
    {tk_DIGITS : Tok}
    {tk_SIGNS : Tok}
    {tk_LONGEST_NAME : Tok}
    {tk_MOST_DIGITS : Tok}
    {h0_WORDS : Int} {tk0_WORDS tv0_WORDS : Tok}
    {h1_WORDS : Int} {tk1_WORDS tv1_WORDS : Tok}
    {h2_WORDS : Int} {tk2_WORDS tv2_WORDS : Tok}
    {h3_WORDS : Int} {tk3_WORDS tv3_WORDS : Tok}
    {ep_WORDS : Nat}
    {h0_WAYS : Int} {tk0_WAYS : Tok}
    {h1_WAYS : Int} {tk1_WAYS : Tok}
    {h2_WAYS : Int} {tk2_WAYS : Tok}
    {h3_WAYS : Int} {tk3_WAYS : Tok}
    {h4_WAYS : Int} {tk4_WAYS : Tok}
    {h5_WAYS : Int} {tk5_WAYS : Tok}
    {h6_WAYS : Int} {tk6_WAYS : Tok}
    {h7_WAYS : Int} {tk7_WAYS : Tok}
    {h8_WAYS : Int} {tk8_WAYS : Tok}
    {h9_WAYS : Int} {tk9_WAYS : Tok}
    {h10_WAYS : Int} {tk10_WAYS : Tok}
    {h11_WAYS : Int} {tk11_WAYS : Tok}
    {h12_WAYS : Int} {tk12_WAYS : Tok}
    {h13_WAYS : Int} {tk13_WAYS : Tok}
    {ep_WAYS : Nat}
    {u0_0_WAYS : Tok}
    {td_0_WAYS : Option Addr} {tn_0_WAYS : Nat} {ts_0_WAYS : Array (Option Value)}
    {u0_1_WAYS : Tok}
    {td_1_WAYS : Option Addr} {tn_1_WAYS : Nat} {ts_1_WAYS : Array (Option Value)}
    {u0_2_WAYS : Tok}
    {td_2_WAYS : Option Addr} {tn_2_WAYS : Nat} {ts_2_WAYS : Array (Option Value)}
    {u0_3_WAYS : Tok}
    {td_3_WAYS : Option Addr} {tn_3_WAYS : Nat} {ts_3_WAYS : Array (Option Value)}
    {u0_4_WAYS : Tok}
    {td_4_WAYS : Option Addr} {tn_4_WAYS : Nat} {ts_4_WAYS : Array (Option Value)}
    {u0_5_WAYS : Tok}
    {td_5_WAYS : Option Addr} {tn_5_WAYS : Nat} {ts_5_WAYS : Array (Option Value)}
    {u0_6_WAYS : Tok}
    {td_6_WAYS : Option Addr} {tn_6_WAYS : Nat} {ts_6_WAYS : Array (Option Value)}
    {u0_7_WAYS : Tok}
    {td_7_WAYS : Option Addr} {tn_7_WAYS : Nat} {ts_7_WAYS : Array (Option Value)}
    {u0_8_WAYS : Tok}
    {td_8_WAYS : Option Addr} {tn_8_WAYS : Nat} {ts_8_WAYS : Array (Option Value)}
    {u0_9_WAYS u1_9_WAYS : Tok}
    {td_9_WAYS : Option Addr} {tn_9_WAYS : Nat} {ts_9_WAYS : Array (Option Value)}
    {u0_10_WAYS : Tok}
    {td_10_WAYS : Option Addr} {tn_10_WAYS : Nat} {ts_10_WAYS : Array (Option Value)}
    {u0_11_WAYS : Tok}
    {td_11_WAYS : Option Addr} {tn_11_WAYS : Nat} {ts_11_WAYS : Array (Option Value)}
    {u0_12_WAYS : Tok}
    {td_12_WAYS : Option Addr} {tn_12_WAYS : Nat} {ts_12_WAYS : Array (Option Value)}
    {u0_13_WAYS u1_13_WAYS : Tok}
    {td_13_WAYS : Option Addr} {tn_13_WAYS : Nat} {ts_13_WAYS : Array (Option Value)}
    {u0_FAULTS_BEHIND u1_FAULTS_BEHIND u2_FAULTS_BEHIND u3_FAULTS_BEHIND u4_FAULTS_BEHIND : Tok}
    {td_FAULTS_BEHIND : Option Addr} {tn_FAULTS_BEHIND : Nat} {ts_FAULTS_BEHIND : Array (Option Value)}
    {u0_FAULTS u1_FAULTS u2_FAULTS u3_FAULTS u4_FAULTS u5_FAULTS u6_FAULTS : Tok}
    {td_FAULTS : Option Addr} {tn_FAULTS : Nat} {ts_FAULTS : Array (Option Value)}
    {u0_ENTRIES u1_ENTRIES u2_ENTRIES u3_ENTRIES u4_ENTRIES u5_ENTRIES u6_ENTRIES u7_ENTRIES u8_ENTRIES u9_ENTRIES u10_ENTRIES u11_ENTRIES u12_ENTRIES u13_ENTRIES : Tok}
    {td_ENTRIES : Option Addr} {tn_ENTRIES : Nat} {ts_ENTRIES : Array (Option Value)}
    {h0_ANSWERS : Int} {tk0_ANSWERS : Tok}
    {h1_ANSWERS : Int} {tk1_ANSWERS : Tok}
    {h2_ANSWERS : Int} {tk2_ANSWERS : Tok}
    {h3_ANSWERS : Int} {tk3_ANSWERS : Tok}
    {h4_ANSWERS : Int} {tk4_ANSWERS : Tok}
    {h5_ANSWERS : Int} {tk5_ANSWERS : Tok}
    {h6_ANSWERS : Int} {tk6_ANSWERS : Tok}
    {h7_ANSWERS : Int} {tk7_ANSWERS : Tok}
    {h8_ANSWERS : Int} {tk8_ANSWERS : Tok}
    {h9_ANSWERS : Int} {tk9_ANSWERS : Tok}
    {h10_ANSWERS : Int} {tk10_ANSWERS : Tok}
    {h11_ANSWERS : Int} {tk11_ANSWERS : Tok}
    {h12_ANSWERS : Int} {tk12_ANSWERS : Tok}
    {h13_ANSWERS : Int} {tk13_ANSWERS : Tok}
    {ep_ANSWERS : Nat}
    {u0_0_ANSWERS u1_0_ANSWERS u2_0_ANSWERS : Tok}
    {td_0_ANSWERS : Option Addr} {tn_0_ANSWERS : Nat} {ts_0_ANSWERS : Array (Option Value)}
    {u0_1_ANSWERS u1_1_ANSWERS u2_1_ANSWERS u3_1_ANSWERS u4_1_ANSWERS : Tok}
    {td_1_ANSWERS : Option Addr} {tn_1_ANSWERS : Nat} {ts_1_ANSWERS : Array (Option Value)}
    {u0_2_ANSWERS u1_2_ANSWERS u2_2_ANSWERS u3_2_ANSWERS : Tok}
    {td_2_ANSWERS : Option Addr} {tn_2_ANSWERS : Nat} {ts_2_ANSWERS : Array (Option Value)}
    {u0_3_ANSWERS u1_3_ANSWERS u2_3_ANSWERS u3_3_ANSWERS : Tok}
    {td_3_ANSWERS : Option Addr} {tn_3_ANSWERS : Nat} {ts_3_ANSWERS : Array (Option Value)}
    {u0_4_ANSWERS u1_4_ANSWERS : Tok}
    {td_4_ANSWERS : Option Addr} {tn_4_ANSWERS : Nat} {ts_4_ANSWERS : Array (Option Value)}
    {u0_5_ANSWERS u1_5_ANSWERS u2_5_ANSWERS u3_5_ANSWERS : Tok}
    {td_5_ANSWERS : Option Addr} {tn_5_ANSWERS : Nat} {ts_5_ANSWERS : Array (Option Value)}
    {u0_6_ANSWERS u1_6_ANSWERS u2_6_ANSWERS u3_6_ANSWERS : Tok}
    {td_6_ANSWERS : Option Addr} {tn_6_ANSWERS : Nat} {ts_6_ANSWERS : Array (Option Value)}
    {u0_7_ANSWERS u1_7_ANSWERS u2_7_ANSWERS u3_7_ANSWERS : Tok}
    {td_7_ANSWERS : Option Addr} {tn_7_ANSWERS : Nat} {ts_7_ANSWERS : Array (Option Value)}
    {u0_8_ANSWERS u1_8_ANSWERS : Tok}
    {td_8_ANSWERS : Option Addr} {tn_8_ANSWERS : Nat} {ts_8_ANSWERS : Array (Option Value)}
    {u0_9_ANSWERS u1_9_ANSWERS : Tok}
    {td_9_ANSWERS : Option Addr} {tn_9_ANSWERS : Nat} {ts_9_ANSWERS : Array (Option Value)}
    {u0_10_ANSWERS u1_10_ANSWERS : Tok}
    {td_10_ANSWERS : Option Addr} {tn_10_ANSWERS : Nat} {ts_10_ANSWERS : Array (Option Value)}
    {u0_11_ANSWERS u1_11_ANSWERS u2_11_ANSWERS u3_11_ANSWERS : Tok}
    {td_11_ANSWERS : Option Addr} {tn_11_ANSWERS : Nat} {ts_11_ANSWERS : Array (Option Value)}
    {u0_12_ANSWERS u1_12_ANSWERS u2_12_ANSWERS u3_12_ANSWERS : Tok}
    {td_12_ANSWERS : Option Addr} {tn_12_ANSWERS : Nat} {ts_12_ANSWERS : Array (Option Value)}
    {u0_13_ANSWERS u1_13_ANSWERS u2_13_ANSWERS u3_13_ANSWERS : Tok}
    {td_13_ANSWERS : Option Addr} {tn_13_ANSWERS : Nat} {ts_13_ANSWERS : Array (Option Value)}
    {tk_MOST_KEPT : Tok}
    (z_hn : PySem.W.specialIn K (.builtin "object.__class__") "__get__" = some (some (.builtin "getset_descriptor.__get__")))
    (z_ht : PySem.W.takesIn K (.builtin "object.__class__") = some true)
    (gc_StampError : PySem.W.nsIn K mainGlobals "StampError" = some (some (.ref c_StampError)))
    (kc_StampError : PySem.W.keepIn K (.ref c_StampError) = true)
    (gc_BadEntry : PySem.W.nsIn K mainGlobals "BadEntry" = some (some (.ref c_BadEntry)))
    (kc_BadEntry : PySem.W.keepIn K (.ref c_BadEntry) = true)
    (gc_BadAnswer : PySem.W.nsIn K mainGlobals "BadAnswer" = some (some (.ref c_BadAnswer)))
    (kc_BadAnswer : PySem.W.keepIn K (.ref c_BadAnswer) = true)
    (gc_BadSetting : PySem.W.nsIn K mainGlobals "BadSetting" = some (some (.ref c_BadSetting)))
    (kc_BadSetting : PySem.W.keepIn K (.ref c_BadSetting) = true)
    (gc_BadStep : PySem.W.nsIn K mainGlobals "BadStep" = some (some (.ref c_BadStep)))
    (kc_BadStep : PySem.W.keepIn K (.ref c_BadStep) = true)
    (gc_Item : PySem.W.nsIn K mainGlobals "Item" = some (some (.ref c_Item)))
    (kc_Item : PySem.W.keepIn K (.ref c_Item) = true)
    (gc_State : PySem.W.nsIn K mainGlobals "State" = some (some (.ref c_State)))
    (kc_State : PySem.W.keepIn K (.ref c_State) = true)
    (gc_Book : PySem.W.nsIn K mainGlobals "Book" = some (some (.ref c_Book)))
    (kc_Book : PySem.W.keepIn K (.ref c_Book) = true)
    (xl_StampError : K.lookup c_StampError = some (excClassObj nm_StampError q_StampError c_StampError N_StampError bs_StampError [.type "ValueError", .type "Exception", .type "BaseException", .type "object"] true sn_StampError sub_StampError ab_StampError col_StampError dd_StampError m0_StampError m1_StampError m2_StampError m3_StampError m5_StampError "ValueError.__new__"))
    (sa_StampError : PySem.W.findIn K (.ref c_StampError) "__setattr__" = some (some (.builtin "object.__setattr__")))
    (xb_StampError : PySem.W.subIn K (.ref c_StampError) (.type "BaseException") = some true)
    (xt_StampError : PySem.W.typeIn K (.ref c_StampError) = some (.type "type"))
    (ga_StampError : PySem.W.findIn K (.ref c_StampError) "__getattribute__" = some (some (.builtin "BaseException.__getattribute__")))
    (gg_StampError : PySem.W.findIn K (.ref c_StampError) "__getattr__" = some none)
    (hd_StampError : PySem.W.hasDictIn K c_StampError = true)
    (ha_StampError : PySem.W.findIn K (.ref c_StampError) "__class__" = some (some (.builtin "object.__class__")))
    (hm_StampError : PySem.W.mroIn K c_StampError (.type "object") = some true)
    (sb_StampError_StampError : PySem.W.subIn K (.ref c_StampError) (.ref c_StampError) = some true)
    (ko_StampError_StampError : PySem.W.kitOne K (.ref c_StampError) (.ref c_StampError) = some true)
    (sb_StampError_BadEntry : PySem.W.subIn K (.ref c_StampError) (.ref c_BadEntry) = some false)
    (ko_StampError_BadEntry : PySem.W.kitOne K (.ref c_StampError) (.ref c_BadEntry) = some false)
    (sb_StampError_BadAnswer : PySem.W.subIn K (.ref c_StampError) (.ref c_BadAnswer) = some false)
    (ko_StampError_BadAnswer : PySem.W.kitOne K (.ref c_StampError) (.ref c_BadAnswer) = some false)
    (sb_StampError_BadSetting : PySem.W.subIn K (.ref c_StampError) (.ref c_BadSetting) = some false)
    (ko_StampError_BadSetting : PySem.W.kitOne K (.ref c_StampError) (.ref c_BadSetting) = some false)
    (sb_StampError_BadStep : PySem.W.subIn K (.ref c_StampError) (.ref c_BadStep) = some false)
    (ko_StampError_BadStep : PySem.W.kitOne K (.ref c_StampError) (.ref c_BadStep) = some false)
    (kv_StampError : PySem.W.kitOne K (.ref c_StampError) (.type "ValueError") = some true)
    (xl_BadEntry : K.lookup c_BadEntry = some (excClassObj nm_BadEntry q_BadEntry c_BadEntry N_BadEntry bs_BadEntry [.ref c_StampError, .type "ValueError", .type "Exception", .type "BaseException", .type "object"] true sn_BadEntry sub_BadEntry ab_BadEntry col_BadEntry dd_BadEntry m0_BadEntry m1_BadEntry m2_BadEntry m3_BadEntry m5_BadEntry "ValueError.__new__"))
    (sa_BadEntry : PySem.W.findIn K (.ref c_BadEntry) "__setattr__" = some (some (.builtin "object.__setattr__")))
    (xb_BadEntry : PySem.W.subIn K (.ref c_BadEntry) (.type "BaseException") = some true)
    (xt_BadEntry : PySem.W.typeIn K (.ref c_BadEntry) = some (.type "type"))
    (ga_BadEntry : PySem.W.findIn K (.ref c_BadEntry) "__getattribute__" = some (some (.builtin "BaseException.__getattribute__")))
    (gg_BadEntry : PySem.W.findIn K (.ref c_BadEntry) "__getattr__" = some none)
    (hd_BadEntry : PySem.W.hasDictIn K c_BadEntry = true)
    (ha_BadEntry : PySem.W.findIn K (.ref c_BadEntry) "__class__" = some (some (.builtin "object.__class__")))
    (hm_BadEntry : PySem.W.mroIn K c_BadEntry (.type "object") = some true)
    (sb_BadEntry_StampError : PySem.W.subIn K (.ref c_BadEntry) (.ref c_StampError) = some true)
    (ko_BadEntry_StampError : PySem.W.kitOne K (.ref c_BadEntry) (.ref c_StampError) = some true)
    (sb_BadEntry_BadEntry : PySem.W.subIn K (.ref c_BadEntry) (.ref c_BadEntry) = some true)
    (ko_BadEntry_BadEntry : PySem.W.kitOne K (.ref c_BadEntry) (.ref c_BadEntry) = some true)
    (sb_BadEntry_BadAnswer : PySem.W.subIn K (.ref c_BadEntry) (.ref c_BadAnswer) = some false)
    (ko_BadEntry_BadAnswer : PySem.W.kitOne K (.ref c_BadEntry) (.ref c_BadAnswer) = some false)
    (sb_BadEntry_BadSetting : PySem.W.subIn K (.ref c_BadEntry) (.ref c_BadSetting) = some false)
    (ko_BadEntry_BadSetting : PySem.W.kitOne K (.ref c_BadEntry) (.ref c_BadSetting) = some false)
    (sb_BadEntry_BadStep : PySem.W.subIn K (.ref c_BadEntry) (.ref c_BadStep) = some false)
    (ko_BadEntry_BadStep : PySem.W.kitOne K (.ref c_BadEntry) (.ref c_BadStep) = some false)
    (kv_BadEntry : PySem.W.kitOne K (.ref c_BadEntry) (.type "ValueError") = some true)
    (na_BadEntry_entry : PySem.W.findIn K (.ref c_BadEntry) "entry" = some none)
    (xl_BadAnswer : K.lookup c_BadAnswer = some (excClassObj nm_BadAnswer q_BadAnswer c_BadAnswer N_BadAnswer bs_BadAnswer [.ref c_StampError, .type "ValueError", .type "Exception", .type "BaseException", .type "object"] true sn_BadAnswer sub_BadAnswer ab_BadAnswer col_BadAnswer dd_BadAnswer m0_BadAnswer m1_BadAnswer m2_BadAnswer m3_BadAnswer m5_BadAnswer "ValueError.__new__"))
    (sa_BadAnswer : PySem.W.findIn K (.ref c_BadAnswer) "__setattr__" = some (some (.builtin "object.__setattr__")))
    (xb_BadAnswer : PySem.W.subIn K (.ref c_BadAnswer) (.type "BaseException") = some true)
    (xt_BadAnswer : PySem.W.typeIn K (.ref c_BadAnswer) = some (.type "type"))
    (ga_BadAnswer : PySem.W.findIn K (.ref c_BadAnswer) "__getattribute__" = some (some (.builtin "BaseException.__getattribute__")))
    (gg_BadAnswer : PySem.W.findIn K (.ref c_BadAnswer) "__getattr__" = some none)
    (hd_BadAnswer : PySem.W.hasDictIn K c_BadAnswer = true)
    (ha_BadAnswer : PySem.W.findIn K (.ref c_BadAnswer) "__class__" = some (some (.builtin "object.__class__")))
    (hm_BadAnswer : PySem.W.mroIn K c_BadAnswer (.type "object") = some true)
    (sb_BadAnswer_StampError : PySem.W.subIn K (.ref c_BadAnswer) (.ref c_StampError) = some true)
    (ko_BadAnswer_StampError : PySem.W.kitOne K (.ref c_BadAnswer) (.ref c_StampError) = some true)
    (sb_BadAnswer_BadEntry : PySem.W.subIn K (.ref c_BadAnswer) (.ref c_BadEntry) = some false)
    (ko_BadAnswer_BadEntry : PySem.W.kitOne K (.ref c_BadAnswer) (.ref c_BadEntry) = some false)
    (sb_BadAnswer_BadAnswer : PySem.W.subIn K (.ref c_BadAnswer) (.ref c_BadAnswer) = some true)
    (ko_BadAnswer_BadAnswer : PySem.W.kitOne K (.ref c_BadAnswer) (.ref c_BadAnswer) = some true)
    (sb_BadAnswer_BadSetting : PySem.W.subIn K (.ref c_BadAnswer) (.ref c_BadSetting) = some false)
    (ko_BadAnswer_BadSetting : PySem.W.kitOne K (.ref c_BadAnswer) (.ref c_BadSetting) = some false)
    (sb_BadAnswer_BadStep : PySem.W.subIn K (.ref c_BadAnswer) (.ref c_BadStep) = some false)
    (ko_BadAnswer_BadStep : PySem.W.kitOne K (.ref c_BadAnswer) (.ref c_BadStep) = some false)
    (kv_BadAnswer : PySem.W.kitOne K (.ref c_BadAnswer) (.type "ValueError") = some true)
    (na_BadAnswer_answer : PySem.W.findIn K (.ref c_BadAnswer) "answer" = some none)
    (na_BadAnswer_entry : PySem.W.findIn K (.ref c_BadAnswer) "entry" = some none)
    (xl_BadSetting : K.lookup c_BadSetting = some (excClassObj nm_BadSetting q_BadSetting c_BadSetting N_BadSetting bs_BadSetting [.ref c_StampError, .type "ValueError", .type "Exception", .type "BaseException", .type "object"] true sn_BadSetting sub_BadSetting ab_BadSetting col_BadSetting dd_BadSetting m0_BadSetting m1_BadSetting m2_BadSetting m3_BadSetting m5_BadSetting "ValueError.__new__"))
    (sa_BadSetting : PySem.W.findIn K (.ref c_BadSetting) "__setattr__" = some (some (.builtin "object.__setattr__")))
    (xb_BadSetting : PySem.W.subIn K (.ref c_BadSetting) (.type "BaseException") = some true)
    (xt_BadSetting : PySem.W.typeIn K (.ref c_BadSetting) = some (.type "type"))
    (ga_BadSetting : PySem.W.findIn K (.ref c_BadSetting) "__getattribute__" = some (some (.builtin "BaseException.__getattribute__")))
    (gg_BadSetting : PySem.W.findIn K (.ref c_BadSetting) "__getattr__" = some none)
    (hd_BadSetting : PySem.W.hasDictIn K c_BadSetting = true)
    (ha_BadSetting : PySem.W.findIn K (.ref c_BadSetting) "__class__" = some (some (.builtin "object.__class__")))
    (hm_BadSetting : PySem.W.mroIn K c_BadSetting (.type "object") = some true)
    (sb_BadSetting_StampError : PySem.W.subIn K (.ref c_BadSetting) (.ref c_StampError) = some true)
    (ko_BadSetting_StampError : PySem.W.kitOne K (.ref c_BadSetting) (.ref c_StampError) = some true)
    (sb_BadSetting_BadEntry : PySem.W.subIn K (.ref c_BadSetting) (.ref c_BadEntry) = some false)
    (ko_BadSetting_BadEntry : PySem.W.kitOne K (.ref c_BadSetting) (.ref c_BadEntry) = some false)
    (sb_BadSetting_BadAnswer : PySem.W.subIn K (.ref c_BadSetting) (.ref c_BadAnswer) = some false)
    (ko_BadSetting_BadAnswer : PySem.W.kitOne K (.ref c_BadSetting) (.ref c_BadAnswer) = some false)
    (sb_BadSetting_BadSetting : PySem.W.subIn K (.ref c_BadSetting) (.ref c_BadSetting) = some true)
    (ko_BadSetting_BadSetting : PySem.W.kitOne K (.ref c_BadSetting) (.ref c_BadSetting) = some true)
    (sb_BadSetting_BadStep : PySem.W.subIn K (.ref c_BadSetting) (.ref c_BadStep) = some false)
    (ko_BadSetting_BadStep : PySem.W.kitOne K (.ref c_BadSetting) (.ref c_BadStep) = some false)
    (kv_BadSetting : PySem.W.kitOne K (.ref c_BadSetting) (.type "ValueError") = some true)
    (na_BadSetting_given : PySem.W.findIn K (.ref c_BadSetting) "given" = some none)
    (xl_BadStep : K.lookup c_BadStep = some (excClassObj nm_BadStep q_BadStep c_BadStep N_BadStep bs_BadStep [.ref c_StampError, .type "ValueError", .type "Exception", .type "BaseException", .type "object"] true sn_BadStep sub_BadStep ab_BadStep col_BadStep dd_BadStep m0_BadStep m1_BadStep m2_BadStep m3_BadStep m5_BadStep "ValueError.__new__"))
    (sa_BadStep : PySem.W.findIn K (.ref c_BadStep) "__setattr__" = some (some (.builtin "object.__setattr__")))
    (xb_BadStep : PySem.W.subIn K (.ref c_BadStep) (.type "BaseException") = some true)
    (xt_BadStep : PySem.W.typeIn K (.ref c_BadStep) = some (.type "type"))
    (ga_BadStep : PySem.W.findIn K (.ref c_BadStep) "__getattribute__" = some (some (.builtin "BaseException.__getattribute__")))
    (gg_BadStep : PySem.W.findIn K (.ref c_BadStep) "__getattr__" = some none)
    (hd_BadStep : PySem.W.hasDictIn K c_BadStep = true)
    (ha_BadStep : PySem.W.findIn K (.ref c_BadStep) "__class__" = some (some (.builtin "object.__class__")))
    (hm_BadStep : PySem.W.mroIn K c_BadStep (.type "object") = some true)
    (sb_BadStep_StampError : PySem.W.subIn K (.ref c_BadStep) (.ref c_StampError) = some true)
    (ko_BadStep_StampError : PySem.W.kitOne K (.ref c_BadStep) (.ref c_StampError) = some true)
    (sb_BadStep_BadEntry : PySem.W.subIn K (.ref c_BadStep) (.ref c_BadEntry) = some false)
    (ko_BadStep_BadEntry : PySem.W.kitOne K (.ref c_BadStep) (.ref c_BadEntry) = some false)
    (sb_BadStep_BadAnswer : PySem.W.subIn K (.ref c_BadStep) (.ref c_BadAnswer) = some false)
    (ko_BadStep_BadAnswer : PySem.W.kitOne K (.ref c_BadStep) (.ref c_BadAnswer) = some false)
    (sb_BadStep_BadSetting : PySem.W.subIn K (.ref c_BadStep) (.ref c_BadSetting) = some false)
    (ko_BadStep_BadSetting : PySem.W.kitOne K (.ref c_BadStep) (.ref c_BadSetting) = some false)
    (sb_BadStep_BadStep : PySem.W.subIn K (.ref c_BadStep) (.ref c_BadStep) = some true)
    (ko_BadStep_BadStep : PySem.W.kitOne K (.ref c_BadStep) (.ref c_BadStep) = some true)
    (kv_BadStep : PySem.W.kitOne K (.ref c_BadStep) (.type "ValueError") = some true)
    (na_BadStep_index : PySem.W.findIn K (.ref c_BadStep) "index" = some none)
    (pg_Item : PySem.W.plainGet K c_Item Str.empty = true)
    (hd_Item : PySem.W.hasDictIn K c_Item = true)
    (po_Item : PySem.W.plainOver K c_Item = true)
    (sa_Item : PySem.W.findIn K (.ref c_Item) "__setattr__" = some (some (.builtin "object.__setattr__")))
    (mk_Item : PySem.W.makesIn K c_Item = true)
    (ha_Item : PySem.W.findIn K (.ref c_Item) "__class__" = some (some (.builtin "object.__class__")))
    (hm_Item : PySem.W.mroIn K c_Item (.type "object") = some true)
    (ko_Item : PySem.W.kitOne K (.ref c_Item) (.ref c_Item) = some true)
    (na_Item_holder : PySem.W.findIn K (.ref c_Item) "holder" = some none)
    (na_Item_kept : PySem.W.findIn K (.ref c_Item) "kept" = some none)
    (na_Item_reader : PySem.W.findIn K (.ref c_Item) "reader" = some none)
    (na_Item_value : PySem.W.findIn K (.ref c_Item) "value" = some none)
    (pg_State : PySem.W.plainGet K c_State Str.empty = true)
    (hd_State : PySem.W.hasDictIn K c_State = true)
    (po_State : PySem.W.plainOver K c_State = true)
    (sa_State : PySem.W.findIn K (.ref c_State) "__setattr__" = some (some (.builtin "object.__setattr__")))
    (mk_State : PySem.W.makesIn K c_State = true)
    (ha_State : PySem.W.findIn K (.ref c_State) "__class__" = some (some (.builtin "object.__class__")))
    (hm_State : PySem.W.mroIn K c_State (.type "object") = some true)
    (ko_State : PySem.W.kitOne K (.ref c_State) (.ref c_State) = some true)
    (na_State_bonds : PySem.W.findIn K (.ref c_State) "bonds" = some none)
    (na_State_over : PySem.W.findIn K (.ref c_State) "over" = some none)
    (na_State_store : PySem.W.findIn K (.ref c_State) "store" = some none)
    (pg_Book : PySem.W.plainGet K c_Book Str.empty = true)
    (hd_Book : PySem.W.hasDictIn K c_Book = true)
    (po_Book : PySem.W.plainOver K c_Book = true)
    (sa_Book : PySem.W.findIn K (.ref c_Book) "__setattr__" = some (some (.builtin "object.__setattr__")))
    (mk_Book : PySem.W.makesIn K c_Book = true)
    (ha_Book : PySem.W.findIn K (.ref c_Book) "__class__" = some (some (.builtin "object.__class__")))
    (hm_Book : PySem.W.mroIn K c_Book (.type "object") = some true)
    (ko_Book : PySem.W.kitOne K (.ref c_Book) (.ref c_Book) = some true)
    (na_Book__answers : PySem.W.findIn K (.ref c_Book) "_answers" = some none)
    (na_Book__ends : PySem.W.findIn K (.ref c_Book) "_ends" = some none)
    (na_Book__keep : PySem.W.findIn K (.ref c_Book) "_keep" = some none)
    (a_BadEntry_init : PySem.W.findIn K (.ref c_BadEntry) "__init__" = some (some (.ref f_BadEntry_init)))
    (l_BadEntry_init : K.lookup f_BadEntry_init = some ⟨oc_BadEntry_init, od_BadEntry_init, .func (PySem.W.fnX "__init__" "BadEntry.__init__" (defArgs s_BadEntry_init) (defBody s_BadEntry_init) (defScope s_BadEntry_init) [(("__class__" : Str), cc_BadEntry_init)] .none kV_BadEntry_init dc_BadEntry_init pm_BadEntry_init an_BadEntry_init (.ref cdr_BadEntry_init) ct_BadEntry_init), sl_BadEntry_init⟩)
    (c_BadEntry_init : PySem.W.codeIn K (.ref cdr_BadEntry_init) "BadEntry.__init__" = true)
    (cl_BadEntry_init : K.lookup cc_BadEntry_init = some ⟨ccl_BadEntry_init, cdd_BadEntry_init, .cell (some (.ref c_BadEntry)), ccs_BadEntry_init⟩)
    (cv_BadEntry_init : K.lookup cdr_BadEntry_init = some ⟨cdo_BadEntry_init, cod_BadEntry_init, .fields cvs_BadEntry_init, cos_BadEntry_init⟩)
    (cw_BadEntry_init : cvs_BadEntry_init[2]? = some (.str cfile_BadEntry_init ctk_BadEntry_init))
    (cx_BadEntry_init : ((PySem.Challenge.rw_stamprules_k27_whole_closed_table.prog.main.file : Str) == cfile_BadEntry_init) = true)
    (tp_BadEntry_init : (PySem.Challenge.rw_stamprules_k27_whole_closed_table.prog.main.scope.names.lookup ("super" : Str)).isSome = false)
    (su_BadEntry_init : PySem.W.ks_superIn K c_BadEntry c_BadEntry "__init__" = some (some (.builtin "ValueError.__init__")))
    (ve_BadEntry_init : PySem.W.subIn K (.ref c_BadEntry) (.type "ValueError") = some true)
    (md_BadEntry_init : PySem.W.mroIn K c_BadEntry (.ref c_BadEntry) = some true)
    (ti_BadEntry_init : PySem.W.typeIn K (.ref f_BadEntry_init) = some (.type "function"))
    (z_th : PySem.W.nsIn K cStatics "thirdparty.any" = some none)
    (z_su : PySem.W.nsIn K mainGlobals "super" = some none)
    (a_BadAnswer_init : PySem.W.findIn K (.ref c_BadAnswer) "__init__" = some (some (.ref f_BadAnswer_init)))
    (l_BadAnswer_init : K.lookup f_BadAnswer_init = some ⟨oc_BadAnswer_init, od_BadAnswer_init, .func (PySem.W.fnX "__init__" "BadAnswer.__init__" (defArgs s_BadAnswer_init) (defBody s_BadAnswer_init) (defScope s_BadAnswer_init) [(("__class__" : Str), cc_BadAnswer_init)] .none kV_BadAnswer_init dc_BadAnswer_init pm_BadAnswer_init an_BadAnswer_init (.ref cdr_BadAnswer_init) ct_BadAnswer_init), sl_BadAnswer_init⟩)
    (c_BadAnswer_init : PySem.W.codeIn K (.ref cdr_BadAnswer_init) "BadAnswer.__init__" = true)
    (cl_BadAnswer_init : K.lookup cc_BadAnswer_init = some ⟨ccl_BadAnswer_init, cdd_BadAnswer_init, .cell (some (.ref c_BadAnswer)), ccs_BadAnswer_init⟩)
    (cv_BadAnswer_init : K.lookup cdr_BadAnswer_init = some ⟨cdo_BadAnswer_init, cod_BadAnswer_init, .fields cvs_BadAnswer_init, cos_BadAnswer_init⟩)
    (cw_BadAnswer_init : cvs_BadAnswer_init[2]? = some (.str cfile_BadAnswer_init ctk_BadAnswer_init))
    (cx_BadAnswer_init : ((PySem.Challenge.rw_stamprules_k27_whole_closed_table.prog.main.file : Str) == cfile_BadAnswer_init) = true)
    (tp_BadAnswer_init : (PySem.Challenge.rw_stamprules_k27_whole_closed_table.prog.main.scope.names.lookup ("super" : Str)).isSome = false)
    (su_BadAnswer_init : PySem.W.ks_superIn K c_BadAnswer c_BadAnswer "__init__" = some (some (.builtin "ValueError.__init__")))
    (ve_BadAnswer_init : PySem.W.subIn K (.ref c_BadAnswer) (.type "ValueError") = some true)
    (md_BadAnswer_init : PySem.W.mroIn K c_BadAnswer (.ref c_BadAnswer) = some true)
    (ti_BadAnswer_init : PySem.W.typeIn K (.ref f_BadAnswer_init) = some (.type "function"))
    (a_BadSetting_init : PySem.W.findIn K (.ref c_BadSetting) "__init__" = some (some (.ref f_BadSetting_init)))
    (l_BadSetting_init : K.lookup f_BadSetting_init = some ⟨oc_BadSetting_init, od_BadSetting_init, .func (PySem.W.fnX "__init__" "BadSetting.__init__" (defArgs s_BadSetting_init) (defBody s_BadSetting_init) (defScope s_BadSetting_init) [(("__class__" : Str), cc_BadSetting_init)] .none kV_BadSetting_init dc_BadSetting_init pm_BadSetting_init an_BadSetting_init (.ref cdr_BadSetting_init) ct_BadSetting_init), sl_BadSetting_init⟩)
    (c_BadSetting_init : PySem.W.codeIn K (.ref cdr_BadSetting_init) "BadSetting.__init__" = true)
    (cl_BadSetting_init : K.lookup cc_BadSetting_init = some ⟨ccl_BadSetting_init, cdd_BadSetting_init, .cell (some (.ref c_BadSetting)), ccs_BadSetting_init⟩)
    (cv_BadSetting_init : K.lookup cdr_BadSetting_init = some ⟨cdo_BadSetting_init, cod_BadSetting_init, .fields cvs_BadSetting_init, cos_BadSetting_init⟩)
    (cw_BadSetting_init : cvs_BadSetting_init[2]? = some (.str cfile_BadSetting_init ctk_BadSetting_init))
    (cx_BadSetting_init : ((PySem.Challenge.rw_stamprules_k27_whole_closed_table.prog.main.file : Str) == cfile_BadSetting_init) = true)
    (tp_BadSetting_init : (PySem.Challenge.rw_stamprules_k27_whole_closed_table.prog.main.scope.names.lookup ("super" : Str)).isSome = false)
    (su_BadSetting_init : PySem.W.ks_superIn K c_BadSetting c_BadSetting "__init__" = some (some (.builtin "ValueError.__init__")))
    (ve_BadSetting_init : PySem.W.subIn K (.ref c_BadSetting) (.type "ValueError") = some true)
    (md_BadSetting_init : PySem.W.mroIn K c_BadSetting (.ref c_BadSetting) = some true)
    (ti_BadSetting_init : PySem.W.typeIn K (.ref f_BadSetting_init) = some (.type "function"))
    (a_BadStep_init : PySem.W.findIn K (.ref c_BadStep) "__init__" = some (some (.ref f_BadStep_init)))
    (l_BadStep_init : K.lookup f_BadStep_init = some ⟨oc_BadStep_init, od_BadStep_init, .func (PySem.W.fnX "__init__" "BadStep.__init__" (defArgs s_BadStep_init) (defBody s_BadStep_init) (defScope s_BadStep_init) [(("__class__" : Str), cc_BadStep_init)] .none kV_BadStep_init dc_BadStep_init pm_BadStep_init an_BadStep_init (.ref cdr_BadStep_init) ct_BadStep_init), sl_BadStep_init⟩)
    (c_BadStep_init : PySem.W.codeIn K (.ref cdr_BadStep_init) "BadStep.__init__" = true)
    (cl_BadStep_init : K.lookup cc_BadStep_init = some ⟨ccl_BadStep_init, cdd_BadStep_init, .cell (some (.ref c_BadStep)), ccs_BadStep_init⟩)
    (cv_BadStep_init : K.lookup cdr_BadStep_init = some ⟨cdo_BadStep_init, cod_BadStep_init, .fields cvs_BadStep_init, cos_BadStep_init⟩)
    (cw_BadStep_init : cvs_BadStep_init[2]? = some (.str cfile_BadStep_init ctk_BadStep_init))
    (cx_BadStep_init : ((PySem.Challenge.rw_stamprules_k27_whole_closed_table.prog.main.file : Str) == cfile_BadStep_init) = true)
    (tp_BadStep_init : (PySem.Challenge.rw_stamprules_k27_whole_closed_table.prog.main.scope.names.lookup ("super" : Str)).isSome = false)
    (su_BadStep_init : PySem.W.ks_superIn K c_BadStep c_BadStep "__init__" = some (some (.builtin "ValueError.__init__")))
    (ve_BadStep_init : PySem.W.subIn K (.ref c_BadStep) (.type "ValueError") = some true)
    (md_BadStep_init : PySem.W.mroIn K c_BadStep (.ref c_BadStep) = some true)
    (ti_BadStep_init : PySem.W.typeIn K (.ref f_BadStep_init) = some (.type "function"))
    (a_Item_init : PySem.W.findIn K (.ref c_Item) "__init__" = some (some (.ref f_Item_init)))
    (l_Item_init : K.lookup f_Item_init = some ⟨oc_Item_init, od_Item_init, .func (PySem.W.fnOf "__init__" "Item.__init__" (defArgs s_Item_init) (defBody s_Item_init) (defScope s_Item_init) .none kV_Item_init dc_Item_init pm_Item_init an_Item_init cd_Item_init ct_Item_init), sl_Item_init⟩)
    (c_Item_init : PySem.W.codeIn K cd_Item_init "Item.__init__" = true)
    (k_Item_init : PySem.W.keepIn K (.ref f_Item_init) = true)
    (fn_Item_init : PySem.W.isFn K (.ref f_Item_init) = true)
    (a_State_init : PySem.W.findIn K (.ref c_State) "__init__" = some (some (.ref f_State_init)))
    (l_State_init : K.lookup f_State_init = some ⟨oc_State_init, od_State_init, .func (PySem.W.fnOf "__init__" "State.__init__" (defArgs s_State_init) (defBody s_State_init) (defScope s_State_init) .none kV_State_init dc_State_init pm_State_init an_State_init cd_State_init ct_State_init), sl_State_init⟩)
    (c_State_init : PySem.W.codeIn K cd_State_init "State.__init__" = true)
    (k_State_init : PySem.W.keepIn K (.ref f_State_init) = true)
    (fn_State_init : PySem.W.isFn K (.ref f_State_init) = true)
    (a_Book_init : PySem.W.findIn K (.ref c_Book) "__init__" = some (some (.ref f_Book_init)))
    (l_Book_init : K.lookup f_Book_init = some ⟨oc_Book_init, od_Book_init, .func (PySem.W.fnOf "__init__" "Book.__init__" (defArgs s_Book_init) (defBody s_Book_init) (defScope s_Book_init) (.ref T_Book_init) (.ref KD_Book_init) dc_Book_init pm_Book_init an_Book_init cd_Book_init ct_Book_init), sl_Book_init⟩)
    (c_Book_init : PySem.W.codeIn K cd_Book_init "Book.__init__" = true)
    (k_Book_init : PySem.W.keepIn K (.ref f_Book_init) = true)
    (kw0_Book_init : PySem.W.nsIn K KD_Book_init "ends" = some (some (.str "now" tq0_Book_init)))
    (kw1_Book_init : PySem.W.nsIn K KD_Book_init "keep" = some (some (.int 1 tq1_Book_init)))
    (T1_Book_init : K.lookup T_Book_init = some ⟨Tc_Book_init, Td_Book_init, .seq #[.none] Tn_Book_init, Ts_Book_init⟩)
    (fn_Book_init : PySem.W.isFn K (.ref f_Book_init) = true)
    (a_Book_ends : PySem.W.findIn K (.ref c_Book) "ends" = some (some (.ref pr_Book_ends)))
    (pg_Book_ends : PySem.W.specialIn K (.ref pr_Book_ends) "__get__" = some (some (.builtin "property.__get__")))
    (pt_Book_ends : PySem.W.takesIn K (.ref pr_Book_ends) = some true)
    (pc_Book_ends : PySem.W.recIn K pr_Book_ends "property" = some (.ref f_Book_ends :: rr_Book_ends))
    (l_Book_ends : K.lookup f_Book_ends = some ⟨oc_Book_ends, od_Book_ends, .func (PySem.W.fnOf "ends" "Book.ends" (defArgs s_Book_ends) (defBody s_Book_ends) (defScope s_Book_ends) .none kV_Book_ends dc_Book_ends pm_Book_ends an_Book_ends cd_Book_ends ct_Book_ends), sl_Book_ends⟩)
    (c_Book_ends : PySem.W.codeIn K cd_Book_ends "Book.ends" = true)
    (k_Book_ends : PySem.W.keepIn K (.ref f_Book_ends) = true)
    (a_Book_keep : PySem.W.findIn K (.ref c_Book) "keep" = some (some (.ref pr_Book_keep)))
    (pg_Book_keep : PySem.W.specialIn K (.ref pr_Book_keep) "__get__" = some (some (.builtin "property.__get__")))
    (pt_Book_keep : PySem.W.takesIn K (.ref pr_Book_keep) = some true)
    (pc_Book_keep : PySem.W.recIn K pr_Book_keep "property" = some (.ref f_Book_keep :: rr_Book_keep))
    (l_Book_keep : K.lookup f_Book_keep = some ⟨oc_Book_keep, od_Book_keep, .func (PySem.W.fnOf "keep" "Book.keep" (defArgs s_Book_keep) (defBody s_Book_keep) (defScope s_Book_keep) .none kV_Book_keep dc_Book_keep pm_Book_keep an_Book_keep cd_Book_keep ct_Book_keep), sl_Book_keep⟩)
    (c_Book_keep : PySem.W.codeIn K cd_Book_keep "Book.keep" = true)
    (k_Book_keep : PySem.W.keepIn K (.ref f_Book_keep) = true)
    (a_Book_getitem : PySem.W.findIn K (.ref c_Book) "__getitem__" = some (some (.ref f_Book_getitem)))
    (l_Book_getitem : K.lookup f_Book_getitem = some ⟨oc_Book_getitem, od_Book_getitem, .func (PySem.W.fnOf "__getitem__" "Book.__getitem__" (defArgs s_Book_getitem) (defBody s_Book_getitem) (defScope s_Book_getitem) .none kV_Book_getitem dc_Book_getitem pm_Book_getitem an_Book_getitem cd_Book_getitem ct_Book_getitem), sl_Book_getitem⟩)
    (c_Book_getitem : PySem.W.codeIn K cd_Book_getitem "Book.__getitem__" = true)
    (k_Book_getitem : PySem.W.keepIn K (.ref f_Book_getitem) = true)
    (fn_Book_getitem : PySem.W.isFn K (.ref f_Book_getitem) = true)
    (nd_Book : PySem.W.mroIn K c_Book (.type "collections.deque") = some false)
    (fi_Book_getitem : PySem.W.fnIn K f_Book_getitem = true)
    (a_is_stamp : PySem.W.nsIn K mainGlobals "is_stamp" = some (some (.ref f_is_stamp)))
    (l_is_stamp : K.lookup f_is_stamp = some ⟨oc_is_stamp, od_is_stamp, .func (PySem.W.fnOf "is_stamp" "is_stamp" (defArgs s_is_stamp) (defBody s_is_stamp) (defScope s_is_stamp) (.ref T_is_stamp) kV_is_stamp dc_is_stamp pm_is_stamp an_is_stamp cd_is_stamp ct_is_stamp), sl_is_stamp⟩)
    (c_is_stamp : PySem.W.codeIn K cd_is_stamp "is_stamp" = true)
    (k_is_stamp : PySem.W.keepIn K (.ref f_is_stamp) = true)
    (T1_is_stamp : K.lookup T_is_stamp = some ⟨Tc_is_stamp, Td_is_stamp, .seq #[.int 0 tk0_is_stamp] Tn_is_stamp, Ts_is_stamp⟩)
    (a_place : PySem.W.nsIn K mainGlobals "place" = some (some (.ref f_place)))
    (l_place : K.lookup f_place = some ⟨oc_place, od_place, .func (PySem.W.fnOf "place" "place" (defArgs s_place) (defBody s_place) (defScope s_place) .none kV_place dc_place pm_place an_place cd_place ct_place), sl_place⟩)
    (c_place : PySem.W.codeIn K cd_place "place" = true)
    (k_place : PySem.W.keepIn K (.ref f_place) = true)
    (a_first_state : PySem.W.nsIn K mainGlobals "first_state" = some (some (.ref f_first_state)))
    (l_first_state : K.lookup f_first_state = some ⟨oc_first_state, od_first_state, .func (PySem.W.fnOf "first_state" "first_state" (defArgs s_first_state) (defBody s_first_state) (defScope s_first_state) .none kV_first_state dc_first_state pm_first_state an_first_state cd_first_state ct_first_state), sl_first_state⟩)
    (c_first_state : PySem.W.codeIn K cd_first_state "first_state" = true)
    (k_first_state : PySem.W.keepIn K (.ref f_first_state) = true)
    (a_item_of : PySem.W.nsIn K mainGlobals "item_of" = some (some (.ref f_item_of)))
    (l_item_of : K.lookup f_item_of = some ⟨oc_item_of, od_item_of, .func (PySem.W.fnOf "item_of" "item_of" (defArgs s_item_of) (defBody s_item_of) (defScope s_item_of) .none kV_item_of dc_item_of pm_item_of an_item_of cd_item_of ct_item_of), sl_item_of⟩)
    (c_item_of : PySem.W.codeIn K cd_item_of "item_of" = true)
    (k_item_of : PySem.W.keepIn K (.ref f_item_of) = true)
    (a_ascending : PySem.W.nsIn K mainGlobals "ascending" = some (some (.ref f_ascending)))
    (l_ascending : K.lookup f_ascending = some ⟨oc_ascending, od_ascending, .func (PySem.W.fnOf "ascending" "ascending" (defArgs s_ascending) (defBody s_ascending) (defScope s_ascending) .none kV_ascending dc_ascending pm_ascending an_ascending cd_ascending ct_ascending), sl_ascending⟩)
    (c_ascending : PySem.W.codeIn K cd_ascending "ascending" = true)
    (k_ascending : PySem.W.keepIn K (.ref f_ascending) = true)
    (a_taken : PySem.W.nsIn K mainGlobals "taken" = some (some (.ref f_taken)))
    (l_taken : K.lookup f_taken = some ⟨oc_taken, od_taken, .func (PySem.W.fnOf "taken" "taken" (defArgs s_taken) (defBody s_taken) (defScope s_taken) .none kV_taken dc_taken pm_taken an_taken cd_taken ct_taken), sl_taken⟩)
    (c_taken : PySem.W.codeIn K cd_taken "taken" = true)
    (k_taken : PySem.W.keepIn K (.ref f_taken) = true)
    (a_committed : PySem.W.nsIn K mainGlobals "committed" = some (some (.ref f_committed)))
    (l_committed : K.lookup f_committed = some ⟨oc_committed, od_committed, .func (PySem.W.fnOf "committed" "committed" (defArgs s_committed) (defBody s_committed) (defScope s_committed) .none kV_committed dc_committed pm_committed an_committed cd_committed ct_committed), sl_committed⟩)
    (c_committed : PySem.W.codeIn K cd_committed "committed" = true)
    (k_committed : PySem.W.keepIn K (.ref f_committed) = true)
    (a_settled : PySem.W.nsIn K mainGlobals "settled" = some (some (.ref f_settled)))
    (l_settled : K.lookup f_settled = some ⟨oc_settled, od_settled, .func (PySem.W.fnOf "settled" "settled" (defArgs s_settled) (defBody s_settled) (defScope s_settled) .none kV_settled dc_settled pm_settled an_settled cd_settled ct_settled), sl_settled⟩)
    (c_settled : PySem.W.codeIn K cd_settled "settled" = true)
    (k_settled : PySem.W.keepIn K (.ref f_settled) = true)
    (a_aborted : PySem.W.nsIn K mainGlobals "aborted" = some (some (.ref f_aborted)))
    (l_aborted : K.lookup f_aborted = some ⟨oc_aborted, od_aborted, .func (PySem.W.fnOf "aborted" "aborted" (defArgs s_aborted) (defBody s_aborted) (defScope s_aborted) .none kV_aborted dc_aborted pm_aborted an_aborted cd_aborted ct_aborted), sl_aborted⟩)
    (c_aborted : PySem.W.codeIn K cd_aborted "aborted" = true)
    (k_aborted : PySem.W.keepIn K (.ref f_aborted) = true)
    (a_without : PySem.W.nsIn K mainGlobals "without" = some (some (.ref f_without)))
    (l_without : K.lookup f_without = some ⟨oc_without, od_without, .func (PySem.W.fnOf "without" "without" (defArgs s_without) (defBody s_without) (defScope s_without) .none kV_without dc_without pm_without an_without cd_without ct_without), sl_without⟩)
    (c_without : PySem.W.codeIn K cd_without "without" = true)
    (k_without : PySem.W.keepIn K (.ref f_without) = true)
    (a_falling : PySem.W.nsIn K mainGlobals "falling" = some (some (.ref f_falling)))
    (l_falling : K.lookup f_falling = some ⟨oc_falling, od_falling, .func (PySem.W.fnOf "falling" "falling" (defArgs s_falling) (defBody s_falling) (defScope s_falling) .none kV_falling dc_falling pm_falling an_falling cd_falling ct_falling), sl_falling⟩)
    (c_falling : PySem.W.codeIn K cd_falling "falling" = true)
    (k_falling : PySem.W.keepIn K (.ref f_falling) = true)
    (a_released : PySem.W.nsIn K mainGlobals "released" = some (some (.ref f_released)))
    (l_released : K.lookup f_released = some ⟨oc_released, od_released, .func (PySem.W.fnOf "released" "released" (defArgs s_released) (defBody s_released) (defScope s_released) .none kV_released dc_released pm_released an_released cd_released ct_released), sl_released⟩)
    (c_released : PySem.W.codeIn K cd_released "released" = true)
    (k_released : PySem.W.keepIn K (.ref f_released) = true)
    (a_requested : PySem.W.nsIn K mainGlobals "requested" = some (some (.ref f_requested)))
    (l_requested : K.lookup f_requested = some ⟨oc_requested, od_requested, .func (PySem.W.fnOf "requested" "requested" (defArgs s_requested) (defBody s_requested) (defScope s_requested) .none kV_requested dc_requested pm_requested an_requested cd_requested ct_requested), sl_requested⟩)
    (c_requested : PySem.W.codeIn K cd_requested "requested" = true)
    (k_requested : PySem.W.keepIn K (.ref f_requested) = true)
    (a_asked : PySem.W.nsIn K mainGlobals "asked" = some (some (.ref f_asked)))
    (l_asked : K.lookup f_asked = some ⟨oc_asked, od_asked, .func (PySem.W.fnOf "asked" "asked" (defArgs s_asked) (defBody s_asked) (defScope s_asked) .none kV_asked dc_asked pm_asked an_asked cd_asked ct_asked), sl_asked⟩)
    (c_asked : PySem.W.codeIn K cd_asked "asked" = true)
    (k_asked : PySem.W.keepIn K (.ref f_asked) = true)
    (a_entry_met : PySem.W.nsIn K mainGlobals "entry_met" = some (some (.ref f_entry_met)))
    (l_entry_met : K.lookup f_entry_met = some ⟨oc_entry_met, od_entry_met, .func (PySem.W.fnOf "entry_met" "entry_met" (defArgs s_entry_met) (defBody s_entry_met) (defScope s_entry_met) .none kV_entry_met dc_entry_met pm_entry_met an_entry_met cd_entry_met ct_entry_met), sl_entry_met⟩)
    (c_entry_met : PySem.W.codeIn K cd_entry_met "entry_met" = true)
    (k_entry_met : PySem.W.keepIn K (.ref f_entry_met) = true)
    (a_fixed_answer : PySem.W.nsIn K mainGlobals "fixed_answer" = some (some (.ref f_fixed_answer)))
    (l_fixed_answer : K.lookup f_fixed_answer = some ⟨oc_fixed_answer, od_fixed_answer, .func (PySem.W.fnOf "fixed_answer" "fixed_answer" (defArgs s_fixed_answer) (defBody s_fixed_answer) (defScope s_fixed_answer) .none kV_fixed_answer dc_fixed_answer pm_fixed_answer an_fixed_answer cd_fixed_answer ct_fixed_answer), sl_fixed_answer⟩)
    (c_fixed_answer : PySem.W.codeIn K cd_fixed_answer "fixed_answer" = true)
    (k_fixed_answer : PySem.W.keepIn K (.ref f_fixed_answer) = true)
    (a_older_values : PySem.W.nsIn K mainGlobals "older_values" = some (some (.ref f_older_values)))
    (l_older_values : K.lookup f_older_values = some ⟨oc_older_values, od_older_values, .func (PySem.W.fnOf "older_values" "older_values" (defArgs s_older_values) (defBody s_older_values) (defScope s_older_values) .none kV_older_values dc_older_values pm_older_values an_older_values cd_older_values ct_older_values), sl_older_values⟩)
    (c_older_values : PySem.W.codeIn K cd_older_values "older_values" = true)
    (k_older_values : PySem.W.keepIn K (.ref f_older_values) = true)
    (a_value_read : PySem.W.nsIn K mainGlobals "value_read" = some (some (.ref f_value_read)))
    (l_value_read : K.lookup f_value_read = some ⟨oc_value_read, od_value_read, .func (PySem.W.fnOf "value_read" "value_read" (defArgs s_value_read) (defBody s_value_read) (defScope s_value_read) .none kV_value_read dc_value_read pm_value_read an_value_read cd_value_read ct_value_read), sl_value_read⟩)
    (c_value_read : PySem.W.codeIn K cd_value_read "value_read" = true)
    (k_value_read : PySem.W.keepIn K (.ref f_value_read) = true)
    (a_binds : PySem.W.nsIn K mainGlobals "binds" = some (some (.ref f_binds)))
    (l_binds : K.lookup f_binds = some ⟨oc_binds, od_binds, .func (PySem.W.fnOf "binds" "binds" (defArgs s_binds) (defBody s_binds) (defScope s_binds) .none kV_binds dc_binds pm_binds an_binds cd_binds ct_binds), sl_binds⟩)
    (c_binds : PySem.W.codeIn K cd_binds "binds" = true)
    (k_binds : PySem.W.keepIn K (.ref f_binds) = true)
    (a_with_bond : PySem.W.nsIn K mainGlobals "with_bond" = some (some (.ref f_with_bond)))
    (l_with_bond : K.lookup f_with_bond = some ⟨oc_with_bond, od_with_bond, .func (PySem.W.fnOf "with_bond" "with_bond" (defArgs s_with_bond) (defBody s_with_bond) (defScope s_with_bond) .none kV_with_bond dc_with_bond pm_with_bond an_with_bond cd_with_bond ct_with_bond), sl_with_bond⟩)
    (c_with_bond : PySem.W.codeIn K cd_with_bond "with_bond" = true)
    (k_with_bond : PySem.W.keepIn K (.ref f_with_bond) = true)
    (a_with_reader : PySem.W.nsIn K mainGlobals "with_reader" = some (some (.ref f_with_reader)))
    (l_with_reader : K.lookup f_with_reader = some ⟨oc_with_reader, od_with_reader, .func (PySem.W.fnOf "with_reader" "with_reader" (defArgs s_with_reader) (defBody s_with_reader) (defScope s_with_reader) .none kV_with_reader dc_with_reader pm_with_reader an_with_reader cd_with_reader ct_with_reader), sl_with_reader⟩)
    (c_with_reader : PySem.W.codeIn K cd_with_reader "with_reader" = true)
    (k_with_reader : PySem.W.keepIn K (.ref f_with_reader) = true)
    (a_with_item : PySem.W.nsIn K mainGlobals "with_item" = some (some (.ref f_with_item)))
    (l_with_item : K.lookup f_with_item = some ⟨oc_with_item, od_with_item, .func (PySem.W.fnOf "with_item" "with_item" (defArgs s_with_item) (defBody s_with_item) (defScope s_with_item) .none kV_with_item dc_with_item pm_with_item an_with_item cd_with_item ct_with_item), sl_with_item⟩)
    (c_with_item : PySem.W.codeIn K cd_with_item "with_item" = true)
    (k_with_item : PySem.W.keepIn K (.ref f_with_item) = true)
    (a_fault : PySem.W.nsIn K mainGlobals "fault" = some (some (.ref f_fault)))
    (l_fault : K.lookup f_fault = some ⟨oc_fault, od_fault, .func (PySem.W.fnOf "fault" "fault" (defArgs s_fault) (defBody s_fault) (defScope s_fault) .none kV_fault dc_fault pm_fault an_fault cd_fault ct_fault), sl_fault⟩)
    (c_fault : PySem.W.codeIn K cd_fault "fault" = true)
    (k_fault : PySem.W.keepIn K (.ref f_fault) = true)
    (a_traced : PySem.W.nsIn K mainGlobals "traced" = some (some (.ref f_traced)))
    (l_traced : K.lookup f_traced = some ⟨oc_traced, od_traced, .func (PySem.W.fnOf "traced" "traced" (defArgs s_traced) (defBody s_traced) (defScope s_traced) .none kV_traced dc_traced pm_traced an_traced cd_traced ct_traced), sl_traced⟩)
    (c_traced : PySem.W.codeIn K cd_traced "traced" = true)
    (k_traced : PySem.W.keepIn K (.ref f_traced) = true)
    (a_is_serial : PySem.W.nsIn K mainGlobals "is_serial" = some (some (.ref f_is_serial)))
    (l_is_serial : K.lookup f_is_serial = some ⟨oc_is_serial, od_is_serial, .func (PySem.W.fnOf "is_serial" "is_serial" (defArgs s_is_serial) (defBody s_is_serial) (defScope s_is_serial) .none kV_is_serial dc_is_serial pm_is_serial an_is_serial cd_is_serial ct_is_serial), sl_is_serial⟩)
    (c_is_serial : PySem.W.codeIn K cd_is_serial "is_serial" = true)
    (k_is_serial : PySem.W.keepIn K (.ref f_is_serial) = true)
    (a_requests_granted : PySem.W.nsIn K mainGlobals "requests_granted" = some (some (.ref f_requests_granted)))
    (l_requests_granted : K.lookup f_requests_granted = some ⟨oc_requests_granted, od_requests_granted, .func (PySem.W.fnOf "requests_granted" "requests_granted" (defArgs s_requests_granted) (defBody s_requests_granted) (defScope s_requests_granted) .none kV_requests_granted dc_requests_granted pm_requests_granted an_requests_granted cd_requests_granted ct_requests_granted), sl_requests_granted⟩)
    (c_requests_granted : PySem.W.codeIn K cd_requests_granted "requests_granted" = true)
    (k_requests_granted : PySem.W.keepIn K (.ref f_requests_granted) = true)
    (a_check_run : PySem.W.nsIn K mainGlobals "check_run" = some (some (.ref f_check_run)))
    (l_check_run : K.lookup f_check_run = some ⟨oc_check_run, od_check_run, .func (PySem.W.fnOf "check_run" "check_run" (defArgs s_check_run) (defBody s_check_run) (defScope s_check_run) .none kV_check_run dc_check_run pm_check_run an_check_run cd_check_run ct_check_run), sl_check_run⟩)
    (c_check_run : PySem.W.codeIn K cd_check_run "check_run" = true)
    (k_check_run : PySem.W.keepIn K (.ref f_check_run) = true)
    (a_is_step : PySem.W.nsIn K mainGlobals "is_step" = some (some (.ref f_is_step)))
    (l_is_step : K.lookup f_is_step = some ⟨oc_is_step, od_is_step, .func (PySem.W.fnOf "is_step" "is_step" (defArgs s_is_step) (defBody s_is_step) (defScope s_is_step) .none kV_is_step dc_is_step pm_is_step an_is_step cd_is_step ct_is_step), sl_is_step⟩)
    (c_is_step : PySem.W.codeIn K cd_is_step "is_step" = true)
    (k_is_step : PySem.W.keepIn K (.ref f_is_step) = true)
    (a_is_name : PySem.W.nsIn K mainGlobals "is_name" = some (some (.ref f_is_name)))
    (l_is_name : K.lookup f_is_name = some ⟨oc_is_name, od_is_name, .func (PySem.W.fnOf "is_name" "is_name" (defArgs s_is_name) (defBody s_is_name) (defScope s_is_name) .none kV_is_name dc_is_name pm_is_name an_is_name cd_is_name ct_is_name), sl_is_name⟩)
    (c_is_name : PySem.W.codeIn K cd_is_name "is_name" = true)
    (k_is_name : PySem.W.keepIn K (.ref f_is_name) = true)
    (a_steps_of : PySem.W.nsIn K mainGlobals "steps_of" = some (some (.ref f_steps_of)))
    (l_steps_of : K.lookup f_steps_of = some ⟨oc_steps_of, od_steps_of, .func (PySem.W.fnOf "steps_of" "steps_of" (defArgs s_steps_of) (defBody s_steps_of) (defScope s_steps_of) (.ref T_steps_of) kV_steps_of dc_steps_of pm_steps_of an_steps_of cd_steps_of ct_steps_of), sl_steps_of⟩)
    (c_steps_of : PySem.W.codeIn K cd_steps_of "steps_of" = true)
    (k_steps_of : PySem.W.keepIn K (.ref f_steps_of) = true)
    (T1_steps_of : K.lookup T_steps_of = some ⟨Tc_steps_of, Td_steps_of, .seq #[.str "x" tk0_steps_of] Tn_steps_of, Ts_steps_of⟩)
    (a_is_numeral : PySem.W.nsIn K mainGlobals "is_numeral" = some (some (.ref f_is_numeral)))
    (l_is_numeral : K.lookup f_is_numeral = some ⟨oc_is_numeral, od_is_numeral, .func (PySem.W.fnOf "is_numeral" "is_numeral" (defArgs s_is_numeral) (defBody s_is_numeral) (defScope s_is_numeral) .none kV_is_numeral dc_is_numeral pm_is_numeral an_is_numeral cd_is_numeral ct_is_numeral), sl_is_numeral⟩)
    (c_is_numeral : PySem.W.codeIn K cd_is_numeral "is_numeral" = true)
    (k_is_numeral : PySem.W.keepIn K (.ref f_is_numeral) = true)
    (a_fault_runs : PySem.W.nsIn K mainGlobals "fault_runs" = some (some (.ref f_fault_runs)))
    (l_fault_runs : K.lookup f_fault_runs = some ⟨oc_fault_runs, od_fault_runs, .func (PySem.W.fnOf "fault_runs" "fault_runs" (defArgs s_fault_runs) (defBody s_fault_runs) (defScope s_fault_runs) .none kV_fault_runs dc_fault_runs pm_fault_runs an_fault_runs cd_fault_runs ct_fault_runs), sl_fault_runs⟩)
    (c_fault_runs : PySem.W.codeIn K cd_fault_runs "fault_runs" = true)
    (k_fault_runs : PySem.W.keepIn K (.ref f_fault_runs) = true)
    (a_shortest_first : PySem.W.nsIn K mainGlobals "shortest_first" = some (some (.ref f_shortest_first)))
    (l_shortest_first : K.lookup f_shortest_first = some ⟨oc_shortest_first, od_shortest_first, .func (PySem.W.fnOf "shortest_first" "shortest_first" (defArgs s_shortest_first) (defBody s_shortest_first) (defScope s_shortest_first) .none kV_shortest_first dc_shortest_first pm_shortest_first an_shortest_first cd_shortest_first ct_shortest_first), sl_shortest_first⟩)
    (c_shortest_first : PySem.W.codeIn K cd_shortest_first "shortest_first" = true)
    (k_shortest_first : PySem.W.keepIn K (.ref f_shortest_first) = true)
    (a_followed : PySem.W.nsIn K mainGlobals "followed" = some (some (.ref f_followed)))
    (l_followed : K.lookup f_followed = some ⟨oc_followed, od_followed, .func (PySem.W.fnOf "followed" "followed" (defArgs s_followed) (defBody s_followed) (defScope s_followed) .none kV_followed dc_followed pm_followed an_followed cd_followed ct_followed), sl_followed⟩)
    (c_followed : PySem.W.codeIn K cd_followed "followed" = true)
    (k_followed : PySem.W.keepIn K (.ref f_followed) = true)
    (a_ways : PySem.W.nsIn K mainGlobals "ways" = some (some (.ref f_ways)))
    (l_ways : K.lookup f_ways = some ⟨oc_ways, od_ways, .func (PySem.W.fnOf "ways" "ways" (defArgs s_ways) (defBody s_ways) (defScope s_ways) .none kV_ways dc_ways pm_ways an_ways cd_ways ct_ways), sl_ways⟩)
    (c_ways : PySem.W.codeIn K cd_ways "ways" = true)
    (k_ways : PySem.W.keepIn K (.ref f_ways) = true)
    (a_answers_at : PySem.W.nsIn K mainGlobals "answers_at" = some (some (.ref f_answers_at)))
    (l_answers_at : K.lookup f_answers_at = some ⟨oc_answers_at, od_answers_at, .func (PySem.W.fnOf "answers_at" "answers_at" (defArgs s_answers_at) (defBody s_answers_at) (defScope s_answers_at) .none kV_answers_at dc_answers_at pm_answers_at an_answers_at cd_answers_at ct_answers_at), sl_answers_at⟩)
    (c_answers_at : PySem.W.codeIn K cd_answers_at "answers_at" = true)
    (k_answers_at : PySem.W.keepIn K (.ref f_answers_at) = true)
    (a_check_answer : PySem.W.nsIn K mainGlobals "check_answer" = some (some (.ref f_check_answer)))
    (l_check_answer : K.lookup f_check_answer = some ⟨oc_check_answer, od_check_answer, .func (PySem.W.fnOf "check_answer" "check_answer" (defArgs s_check_answer) (defBody s_check_answer) (defScope s_check_answer) .none kV_check_answer dc_check_answer pm_check_answer an_check_answer cd_check_answer ct_check_answer), sl_check_answer⟩)
    (c_check_answer : PySem.W.codeIn K cd_check_answer "check_answer" = true)
    (k_check_answer : PySem.W.keepIn K (.ref f_check_answer) = true)
    (a_is_keep : PySem.W.nsIn K mainGlobals "is_keep" = some (some (.ref f_is_keep)))
    (l_is_keep : K.lookup f_is_keep = some ⟨oc_is_keep, od_is_keep, .func (PySem.W.fnOf "is_keep" "is_keep" (defArgs s_is_keep) (defBody s_is_keep) (defScope s_is_keep) .none kV_is_keep dc_is_keep pm_is_keep an_is_keep cd_is_keep ct_is_keep), sl_is_keep⟩)
    (c_is_keep : PySem.W.codeIn K cd_is_keep "is_keep" = true)
    (k_is_keep : PySem.W.keepIn K (.ref f_is_keep) = true)
    (a_erring : PySem.W.nsIn K mainGlobals "erring" = some (some (.ref f_erring)))
    (l_erring : K.lookup f_erring = some ⟨oc_erring, od_erring, .func (PySem.W.fnOf "erring" "erring" (defArgs s_erring) (defBody s_erring) (defScope s_erring) .none kV_erring dc_erring pm_erring an_erring cd_erring ct_erring), sl_erring⟩)
    (c_erring : PySem.W.codeIn K cd_erring "erring" = true)
    (k_erring : PySem.W.keepIn K (.ref f_erring) = true)
    (a_first_that : PySem.W.nsIn K mainGlobals "first_that" = some (some (.ref f_first_that)))
    (l_first_that : K.lookup f_first_that = some ⟨oc_first_that, od_first_that, .func (PySem.W.fnOf "first_that" "first_that" (defArgs s_first_that) (defBody s_first_that) (defScope s_first_that) .none kV_first_that dc_first_that pm_first_that an_first_that cd_first_that ct_first_that), sl_first_that⟩)
    (c_first_that : PySem.W.codeIn K cd_first_that "first_that" = true)
    (k_first_that : PySem.W.keepIn K (.ref f_first_that) = true)
    (a_has_fault : PySem.W.nsIn K mainGlobals "has_fault" = some (some (.ref f_has_fault)))
    (l_has_fault : K.lookup f_has_fault = some ⟨oc_has_fault, od_has_fault, .func (PySem.W.fnOf "has_fault" "has_fault" (defArgs s_has_fault) (defBody s_has_fault) (defScope s_has_fault) .none kV_has_fault dc_has_fault pm_has_fault an_has_fault cd_has_fault ct_has_fault), sl_has_fault⟩)
    (c_has_fault : PySem.W.codeIn K cd_has_fault "has_fault" = true)
    (k_has_fault : PySem.W.keepIn K (.ref f_has_fault) = true)
    (a_law_cell : PySem.W.nsIn K mainGlobals "_law_cell" = some (some (.ref f_law_cell)))
    (l_law_cell : K.lookup f_law_cell = some ⟨oc_law_cell, od_law_cell, .func (PySem.W.fnOf "_law_cell" "_law_cell" (defArgs s_law_cell) (defBody s_law_cell) (defScope s_law_cell) .none kV_law_cell dc_law_cell pm_law_cell an_law_cell cd_law_cell ct_law_cell), sl_law_cell⟩)
    (c_law_cell : PySem.W.codeIn K cd_law_cell "_law_cell" = true)
    (k_law_cell : PySem.W.keepIn K (.ref f_law_cell) = true)
    (a_law_row : PySem.W.nsIn K mainGlobals "_law_row" = some (some (.ref f_law_row)))
    (l_law_row : K.lookup f_law_row = some ⟨oc_law_row, od_law_row, .func (PySem.W.fnOf "_law_row" "_law_row" (defArgs s_law_row) (defBody s_law_row) (defScope s_law_row) .none kV_law_row dc_law_row pm_law_row an_law_row cd_law_row ct_law_row), sl_law_row⟩)
    (c_law_row : PySem.W.codeIn K cd_law_row "_law_row" = true)
    (k_law_row : PySem.W.keepIn K (.ref f_law_row) = true)
    (a_law_entries : PySem.W.nsIn K mainGlobals "_law_entries" = some (some (.ref f_law_entries)))
    (l_law_entries : K.lookup f_law_entries = some ⟨oc_law_entries, od_law_entries, .func (PySem.W.fnOf "_law_entries" "_law_entries" (defArgs s_law_entries) (defBody s_law_entries) (defScope s_law_entries) .none kV_law_entries dc_law_entries pm_law_entries an_law_entries cd_law_entries ct_law_entries), sl_law_entries⟩)
    (c_law_entries : PySem.W.codeIn K cd_law_entries "_law_entries" = true)
    (k_law_entries : PySem.W.keepIn K (.ref f_law_entries) = true)
    (a_law_choices : PySem.W.nsIn K mainGlobals "_law_choices" = some (some (.ref f_law_choices)))
    (l_law_choices : K.lookup f_law_choices = some ⟨oc_law_choices, od_law_choices, .func (PySem.W.fnOf "_law_choices" "_law_choices" (defArgs s_law_choices) (defBody s_law_choices) (defScope s_law_choices) .none kV_law_choices dc_law_choices pm_law_choices an_law_choices cd_law_choices ct_law_choices), sl_law_choices⟩)
    (c_law_choices : PySem.W.codeIn K cd_law_choices "_law_choices" = true)
    (k_law_choices : PySem.W.keepIn K (.ref f_law_choices) = true)
    (a_law_table : PySem.W.nsIn K mainGlobals "_law_table" = some (some (.ref f_law_table)))
    (l_law_table : K.lookup f_law_table = some ⟨oc_law_table, od_law_table, .func (PySem.W.fnOf "_law_table" "_law_table" (defArgs s_law_table) (defBody s_law_table) (defScope s_law_table) .none kV_law_table dc_law_table pm_law_table an_law_table cd_law_table ct_law_table), sl_law_table⟩)
    (c_law_table : PySem.W.codeIn K cd_law_table "_law_table" = true)
    (k_law_table : PySem.W.keepIn K (.ref f_law_table) = true)
    (a_law_fits : PySem.W.nsIn K mainGlobals "_law_fits" = some (some (.ref f_law_fits)))
    (l_law_fits : K.lookup f_law_fits = some ⟨oc_law_fits, od_law_fits, .func (PySem.W.fnOf "_law_fits" "_law_fits" (defArgs s_law_fits) (defBody s_law_fits) (defScope s_law_fits) .none kV_law_fits dc_law_fits pm_law_fits an_law_fits cd_law_fits ct_law_fits), sl_law_fits⟩)
    (c_law_fits : PySem.W.codeIn K cd_law_fits "_law_fits" = true)
    (k_law_fits : PySem.W.keepIn K (.ref f_law_fits) = true)
    (a_law_sound : PySem.W.nsIn K mainGlobals "_law_sound" = some (some (.ref f_law_sound)))
    (l_law_sound : K.lookup f_law_sound = some ⟨oc_law_sound, od_law_sound, .func (PySem.W.fnOf "_law_sound" "_law_sound" (defArgs s_law_sound) (defBody s_law_sound) (defScope s_law_sound) .none kV_law_sound dc_law_sound pm_law_sound an_law_sound cd_law_sound ct_law_sound), sl_law_sound⟩)
    (c_law_sound : PySem.W.codeIn K cd_law_sound "_law_sound" = true)
    (k_law_sound : PySem.W.keepIn K (.ref f_law_sound) = true)
    (a_law_terms : PySem.W.nsIn K mainGlobals "_law_terms" = some (some (.ref f_law_terms)))
    (l_law_terms : K.lookup f_law_terms = some ⟨oc_law_terms, od_law_terms, .func (PySem.W.fnOf "_law_terms" "_law_terms" (defArgs s_law_terms) (defBody s_law_terms) (defScope s_law_terms) .none kV_law_terms dc_law_terms pm_law_terms an_law_terms cd_law_terms ct_law_terms), sl_law_terms⟩)
    (c_law_terms : PySem.W.codeIn K cd_law_terms "_law_terms" = true)
    (k_law_terms : PySem.W.keepIn K (.ref f_law_terms) = true)
    (a_law_clean : PySem.W.nsIn K mainGlobals "_law_clean" = some (some (.ref f_law_clean)))
    (l_law_clean : K.lookup f_law_clean = some ⟨oc_law_clean, od_law_clean, .func (PySem.W.fnOf "_law_clean" "_law_clean" (defArgs s_law_clean) (defBody s_law_clean) (defScope s_law_clean) .none kV_law_clean dc_law_clean pm_law_clean an_law_clean cd_law_clean ct_law_clean), sl_law_clean⟩)
    (c_law_clean : PySem.W.codeIn K cd_law_clean "_law_clean" = true)
    (k_law_clean : PySem.W.keepIn K (.ref f_law_clean) = true)
    (a_law : PySem.W.nsIn K mainGlobals "law" = some (some (.ref f_law)))
    (l_law : K.lookup f_law = some ⟨oc_law, od_law, .func (PySem.W.fnOf "law" "law" (defArgs s_law) (defBody s_law) (defScope s_law) .none kV_law dc_law pm_law an_law cd_law ct_law), sl_law⟩)
    (c_law : PySem.W.codeIn K cd_law "law" = true)
    (k_law : PySem.W.keepIn K (.ref f_law) = true)
    (gv_GREATEST : PySem.W.nsIn K mainGlobals "GREATEST" = some (some (.int 1000000000000000000000000000000 tk_GREATEST)))
    (gv_DIGITS : PySem.W.nsIn K mainGlobals "DIGITS" = some (some (.str "0123456789" tk_DIGITS)))
    (gv_SIGNS : PySem.W.nsIn K mainGlobals "SIGNS" = some (some (.str "abcdefghijklmnopqrstuvwxyz0123456789" tk_SIGNS)))
    (gv_LONGEST_NAME : PySem.W.nsIn K mainGlobals "LONGEST_NAME" = some (some (.int 8 tk_LONGEST_NAME)))
    (gv_MOST_DIGITS : PySem.W.nsIn K mainGlobals "MOST_DIGITS" = some (some (.int 31 tk_MOST_DIGITS)))
    (gv_WORDS : PySem.W.nsIn K mainGlobals "WORDS" = some (some (.ref o_WORDS)))
    (dl_WORDS : K.lookup o_WORDS = some ⟨.type "dict", none, .dict #[⟨h0_WORDS, .str "r" tk0_WORDS, .str "read" tv0_WORDS⟩, ⟨h1_WORDS, .str "w" tk1_WORDS, .str "write" tv1_WORDS⟩, ⟨h2_WORDS, .str "c" tk2_WORDS, .str "commit" tv2_WORDS⟩, ⟨h3_WORDS, .str "a" tk3_WORDS, .str "abort" tv3_WORDS⟩] ep_WORDS, #[]⟩)
    (dk_WORDS : PySem.W.KeysLit w.params [⟨h0_WORDS, .str "r" tk0_WORDS, .str "read" tv0_WORDS⟩, ⟨h1_WORDS, .str "w" tk1_WORDS, .str "write" tv1_WORDS⟩, ⟨h2_WORDS, .str "c" tk2_WORDS, .str "commit" tv2_WORDS⟩, ⟨h3_WORDS, .str "a" tk3_WORDS, .str "abort" tv3_WORDS⟩])
    (ds_WORDS : (o_WORDS == sysModules) = false)
    (gv_WAYS : PySem.W.nsIn K mainGlobals "WAYS" = some (some (.ref o_WAYS)))
    (dl_WAYS : K.lookup o_WAYS = some ⟨.type "dict", none, .dict #[⟨h0_WAYS, .str "read late" tk0_WAYS, .ref o0_WAYS⟩, ⟨h1_WAYS, .str "read under" tk1_WAYS, .ref o1_WAYS⟩, ⟨h2_WAYS, .str "read below" tk2_WAYS, .ref o2_WAYS⟩, ⟨h3_WAYS, .str "read above" tk3_WAYS, .ref o3_WAYS⟩, ⟨h4_WAYS, .str "write late" tk4_WAYS, .ref o4_WAYS⟩, ⟨h5_WAYS, .str "write under" tk5_WAYS, .ref o5_WAYS⟩, ⟨h6_WAYS, .str "write below" tk6_WAYS, .ref o6_WAYS⟩, ⟨h7_WAYS, .str "write above" tk7_WAYS, .ref o7_WAYS⟩, ⟨h8_WAYS, .str "write free passed" tk8_WAYS, .ref o8_WAYS⟩, ⟨h9_WAYS, .str "write own passed" tk9_WAYS, .ref o9_WAYS⟩, ⟨h10_WAYS, .str "write late passed" tk10_WAYS, .ref o10_WAYS⟩, ⟨h11_WAYS, .str "write under passed" tk11_WAYS, .ref o11_WAYS⟩, ⟨h12_WAYS, .str "write below passed" tk12_WAYS, .ref o12_WAYS⟩, ⟨h13_WAYS, .str "write above passed" tk13_WAYS, .ref o13_WAYS⟩] ep_WAYS, #[]⟩)
    (dk_WAYS : PySem.W.KeysLit w.params [⟨h0_WAYS, .str "read late" tk0_WAYS, .ref o0_WAYS⟩, ⟨h1_WAYS, .str "read under" tk1_WAYS, .ref o1_WAYS⟩, ⟨h2_WAYS, .str "read below" tk2_WAYS, .ref o2_WAYS⟩, ⟨h3_WAYS, .str "read above" tk3_WAYS, .ref o3_WAYS⟩, ⟨h4_WAYS, .str "write late" tk4_WAYS, .ref o4_WAYS⟩, ⟨h5_WAYS, .str "write under" tk5_WAYS, .ref o5_WAYS⟩, ⟨h6_WAYS, .str "write below" tk6_WAYS, .ref o6_WAYS⟩, ⟨h7_WAYS, .str "write above" tk7_WAYS, .ref o7_WAYS⟩, ⟨h8_WAYS, .str "write free passed" tk8_WAYS, .ref o8_WAYS⟩, ⟨h9_WAYS, .str "write own passed" tk9_WAYS, .ref o9_WAYS⟩, ⟨h10_WAYS, .str "write late passed" tk10_WAYS, .ref o10_WAYS⟩, ⟨h11_WAYS, .str "write under passed" tk11_WAYS, .ref o11_WAYS⟩, ⟨h12_WAYS, .str "write below passed" tk12_WAYS, .ref o12_WAYS⟩, ⟨h13_WAYS, .str "write above passed" tk13_WAYS, .ref o13_WAYS⟩])
    (ds_WAYS : (o_WAYS == sysModules) = false)
    (tl_0_WAYS : K.lookup o0_WAYS = some ⟨.type "tuple", td_0_WAYS, .seq #[.str "w2 c2 r1" u0_0_WAYS] tn_0_WAYS, ts_0_WAYS⟩)
    (tl_1_WAYS : K.lookup o1_WAYS = some ⟨.type "tuple", td_1_WAYS, .seq #[.str "w2 c2 w3 r1" u0_1_WAYS] tn_1_WAYS, ts_1_WAYS⟩)
    (tl_2_WAYS : K.lookup o2_WAYS = some ⟨.type "tuple", td_2_WAYS, .seq #[.str "w2 r1" u0_2_WAYS] tn_2_WAYS, ts_2_WAYS⟩)
    (tl_3_WAYS : K.lookup o3_WAYS = some ⟨.type "tuple", td_3_WAYS, .seq #[.str "w1 r2" u0_3_WAYS] tn_3_WAYS, ts_3_WAYS⟩)
    (tl_4_WAYS : K.lookup o4_WAYS = some ⟨.type "tuple", td_4_WAYS, .seq #[.str "w2 c2 w1" u0_4_WAYS] tn_4_WAYS, ts_4_WAYS⟩)
    (tl_5_WAYS : K.lookup o5_WAYS = some ⟨.type "tuple", td_5_WAYS, .seq #[.str "w2 c2 w3 w1" u0_5_WAYS] tn_5_WAYS, ts_5_WAYS⟩)
    (tl_6_WAYS : K.lookup o6_WAYS = some ⟨.type "tuple", td_6_WAYS, .seq #[.str "w2 w1" u0_6_WAYS] tn_6_WAYS, ts_6_WAYS⟩)
    (tl_7_WAYS : K.lookup o7_WAYS = some ⟨.type "tuple", td_7_WAYS, .seq #[.str "w1 w2" u0_7_WAYS] tn_7_WAYS, ts_7_WAYS⟩)
    (tl_8_WAYS : K.lookup o8_WAYS = some ⟨.type "tuple", td_8_WAYS, .seq #[.str "r2 w1" u0_8_WAYS] tn_8_WAYS, ts_8_WAYS⟩)
    (tl_9_WAYS : K.lookup o9_WAYS = some ⟨.type "tuple", td_9_WAYS, .seq #[.str "w1 r2 w1" u0_9_WAYS, .str "r2 w1 w1" u1_9_WAYS] tn_9_WAYS, ts_9_WAYS⟩)
    (tl_10_WAYS : K.lookup o10_WAYS = some ⟨.type "tuple", td_10_WAYS, .seq #[.str "r2 w2 c2 w1" u0_10_WAYS] tn_10_WAYS, ts_10_WAYS⟩)
    (tl_11_WAYS : K.lookup o11_WAYS = some ⟨.type "tuple", td_11_WAYS, .seq #[.str "r2 w2 c2 w3 w1" u0_11_WAYS] tn_11_WAYS, ts_11_WAYS⟩)
    (tl_12_WAYS : K.lookup o12_WAYS = some ⟨.type "tuple", td_12_WAYS, .seq #[.str "r2 w2 w1" u0_12_WAYS] tn_12_WAYS, ts_12_WAYS⟩)
    (tl_13_WAYS : K.lookup o13_WAYS = some ⟨.type "tuple", td_13_WAYS, .seq #[.str "w1 r3 w2" u0_13_WAYS, .str "r3 w1 w2" u1_13_WAYS] tn_13_WAYS, ts_13_WAYS⟩)
    (dn0_WAYS : PySem.W.nsIn K o_WAYS "read late" = some (some (.ref o0_WAYS)))
    (dn1_WAYS : PySem.W.nsIn K o_WAYS "read under" = some (some (.ref o1_WAYS)))
    (dn2_WAYS : PySem.W.nsIn K o_WAYS "read below" = some (some (.ref o2_WAYS)))
    (dn3_WAYS : PySem.W.nsIn K o_WAYS "read above" = some (some (.ref o3_WAYS)))
    (dn4_WAYS : PySem.W.nsIn K o_WAYS "write late" = some (some (.ref o4_WAYS)))
    (dn5_WAYS : PySem.W.nsIn K o_WAYS "write under" = some (some (.ref o5_WAYS)))
    (dn6_WAYS : PySem.W.nsIn K o_WAYS "write below" = some (some (.ref o6_WAYS)))
    (dn7_WAYS : PySem.W.nsIn K o_WAYS "write above" = some (some (.ref o7_WAYS)))
    (dn8_WAYS : PySem.W.nsIn K o_WAYS "write free passed" = some (some (.ref o8_WAYS)))
    (dn9_WAYS : PySem.W.nsIn K o_WAYS "write own passed" = some (some (.ref o9_WAYS)))
    (dn10_WAYS : PySem.W.nsIn K o_WAYS "write late passed" = some (some (.ref o10_WAYS)))
    (dn11_WAYS : PySem.W.nsIn K o_WAYS "write under passed" = some (some (.ref o11_WAYS)))
    (dn12_WAYS : PySem.W.nsIn K o_WAYS "write below passed" = some (some (.ref o12_WAYS)))
    (dn13_WAYS : PySem.W.nsIn K o_WAYS "write above passed" = some (some (.ref o13_WAYS)))
    (gv_FAULTS_BEHIND : PySem.W.nsIn K mainGlobals "FAULTS_BEHIND" = some (some (.ref o_FAULTS_BEHIND)))
    (tl_FAULTS_BEHIND : K.lookup o_FAULTS_BEHIND = some ⟨.type "tuple", td_FAULTS_BEHIND, .seq #[.str "c1" u0_FAULTS_BEHIND, .str "c2" u1_FAULTS_BEHIND, .str "c1 c2" u2_FAULTS_BEHIND, .str "c2 c1" u3_FAULTS_BEHIND, .str "c3 c1" u4_FAULTS_BEHIND] tn_FAULTS_BEHIND, ts_FAULTS_BEHIND⟩)
    (gv_FAULTS : PySem.W.nsIn K mainGlobals "FAULTS" = some (some (.ref o_FAULTS)))
    (tl_FAULTS : K.lookup o_FAULTS = some ⟨.type "tuple", td_FAULTS, .seq #[.str "w2 c2 w1 r1 c1" u0_FAULTS, .str "w2 w1 r1 c2 c1" u1_FAULTS, .str "w2 w1 c2 r1 c1" u2_FAULTS, .str "w2 c2 w1 w3 r1 c1" u3_FAULTS, .str "w2 c2 w3 w1 r1 c1" u4_FAULTS, .str "w2 w1 c2 w3 r1 c1" u5_FAULTS, .str "w2 c2 w3 w1 a3 r1 c1" u6_FAULTS] tn_FAULTS, ts_FAULTS⟩)
    (gv_ENTRIES : PySem.W.nsIn K mainGlobals "ENTRIES" = some (some (.ref o_ENTRIES)))
    (tl_ENTRIES : K.lookup o_ENTRIES = some ⟨.type "tuple", td_ENTRIES, .seq #[.str "read late" u0_ENTRIES, .str "read under" u1_ENTRIES, .str "read below" u2_ENTRIES, .str "read above" u3_ENTRIES, .str "write late" u4_ENTRIES, .str "write under" u5_ENTRIES, .str "write below" u6_ENTRIES, .str "write above" u7_ENTRIES, .str "write free passed" u8_ENTRIES, .str "write own passed" u9_ENTRIES, .str "write late passed" u10_ENTRIES, .str "write under passed" u11_ENTRIES, .str "write below passed" u12_ENTRIES, .str "write above passed" u13_ENTRIES] tn_ENTRIES, ts_ENTRIES⟩)
    (gv_ANSWERS : PySem.W.nsIn K mainGlobals "ANSWERS" = some (some (.ref o_ANSWERS)))
    (dl_ANSWERS : K.lookup o_ANSWERS = some ⟨.type "dict", none, .dict #[⟨h0_ANSWERS, .str "read late" tk0_ANSWERS, .ref o0_ANSWERS⟩, ⟨h1_ANSWERS, .str "read under" tk1_ANSWERS, .ref o1_ANSWERS⟩, ⟨h2_ANSWERS, .str "read below" tk2_ANSWERS, .ref o2_ANSWERS⟩, ⟨h3_ANSWERS, .str "read above" tk3_ANSWERS, .ref o3_ANSWERS⟩, ⟨h4_ANSWERS, .str "write late" tk4_ANSWERS, .ref o4_ANSWERS⟩, ⟨h5_ANSWERS, .str "write under" tk5_ANSWERS, .ref o5_ANSWERS⟩, ⟨h6_ANSWERS, .str "write below" tk6_ANSWERS, .ref o6_ANSWERS⟩, ⟨h7_ANSWERS, .str "write above" tk7_ANSWERS, .ref o7_ANSWERS⟩, ⟨h8_ANSWERS, .str "write free passed" tk8_ANSWERS, .ref o8_ANSWERS⟩, ⟨h9_ANSWERS, .str "write own passed" tk9_ANSWERS, .ref o9_ANSWERS⟩, ⟨h10_ANSWERS, .str "write late passed" tk10_ANSWERS, .ref o10_ANSWERS⟩, ⟨h11_ANSWERS, .str "write under passed" tk11_ANSWERS, .ref o11_ANSWERS⟩, ⟨h12_ANSWERS, .str "write below passed" tk12_ANSWERS, .ref o12_ANSWERS⟩, ⟨h13_ANSWERS, .str "write above passed" tk13_ANSWERS, .ref o13_ANSWERS⟩] ep_ANSWERS, #[]⟩)
    (dk_ANSWERS : PySem.W.KeysLit w.params [⟨h0_ANSWERS, .str "read late" tk0_ANSWERS, .ref o0_ANSWERS⟩, ⟨h1_ANSWERS, .str "read under" tk1_ANSWERS, .ref o1_ANSWERS⟩, ⟨h2_ANSWERS, .str "read below" tk2_ANSWERS, .ref o2_ANSWERS⟩, ⟨h3_ANSWERS, .str "read above" tk3_ANSWERS, .ref o3_ANSWERS⟩, ⟨h4_ANSWERS, .str "write late" tk4_ANSWERS, .ref o4_ANSWERS⟩, ⟨h5_ANSWERS, .str "write under" tk5_ANSWERS, .ref o5_ANSWERS⟩, ⟨h6_ANSWERS, .str "write below" tk6_ANSWERS, .ref o6_ANSWERS⟩, ⟨h7_ANSWERS, .str "write above" tk7_ANSWERS, .ref o7_ANSWERS⟩, ⟨h8_ANSWERS, .str "write free passed" tk8_ANSWERS, .ref o8_ANSWERS⟩, ⟨h9_ANSWERS, .str "write own passed" tk9_ANSWERS, .ref o9_ANSWERS⟩, ⟨h10_ANSWERS, .str "write late passed" tk10_ANSWERS, .ref o10_ANSWERS⟩, ⟨h11_ANSWERS, .str "write under passed" tk11_ANSWERS, .ref o11_ANSWERS⟩, ⟨h12_ANSWERS, .str "write below passed" tk12_ANSWERS, .ref o12_ANSWERS⟩, ⟨h13_ANSWERS, .str "write above passed" tk13_ANSWERS, .ref o13_ANSWERS⟩])
    (ds_ANSWERS : (o_ANSWERS == sysModules) = false)
    (tl_0_ANSWERS : K.lookup o0_ANSWERS = some ⟨.type "tuple", td_0_ANSWERS, .seq #[.str "last" u0_0_ANSWERS, .str "old" u1_0_ANSWERS, .str "abort" u2_0_ANSWERS] tn_0_ANSWERS, ts_0_ANSWERS⟩)
    (tl_1_ANSWERS : K.lookup o1_ANSWERS = some ⟨.type "tuple", td_1_ANSWERS, .seq #[.str "last" u0_1_ANSWERS, .str "old" u1_1_ANSWERS, .str "open" u2_1_ANSWERS, .str "wait" u3_1_ANSWERS, .str "abort" u4_1_ANSWERS] tn_1_ANSWERS, ts_1_ANSWERS⟩)
    (tl_2_ANSWERS : K.lookup o2_ANSWERS = some ⟨.type "tuple", td_2_ANSWERS, .seq #[.str "last" u0_2_ANSWERS, .str "open" u1_2_ANSWERS, .str "wait" u2_2_ANSWERS, .str "abort" u3_2_ANSWERS] tn_2_ANSWERS, ts_2_ANSWERS⟩)
    (tl_3_ANSWERS : K.lookup o3_ANSWERS = some ⟨.type "tuple", td_3_ANSWERS, .seq #[.str "last" u0_3_ANSWERS, .str "open" u1_3_ANSWERS, .str "wait" u2_3_ANSWERS, .str "abort" u3_3_ANSWERS] tn_3_ANSWERS, ts_3_ANSWERS⟩)
    (tl_4_ANSWERS : K.lookup o4_ANSWERS = some ⟨.type "tuple", td_4_ANSWERS, .seq #[.str "skip" u0_4_ANSWERS, .str "abort" u1_4_ANSWERS] tn_4_ANSWERS, ts_4_ANSWERS⟩)
    (tl_5_ANSWERS : K.lookup o5_ANSWERS = some ⟨.type "tuple", td_5_ANSWERS, .seq #[.str "skip" u0_5_ANSWERS, .str "wait" u1_5_ANSWERS, .str "wound" u2_5_ANSWERS, .str "abort" u3_5_ANSWERS] tn_5_ANSWERS, ts_5_ANSWERS⟩)
    (tl_6_ANSWERS : K.lookup o6_ANSWERS = some ⟨.type "tuple", td_6_ANSWERS, .seq #[.str "skip" u0_6_ANSWERS, .str "wait" u1_6_ANSWERS, .str "wound" u2_6_ANSWERS, .str "abort" u3_6_ANSWERS] tn_6_ANSWERS, ts_6_ANSWERS⟩)
    (tl_7_ANSWERS : K.lookup o7_ANSWERS = some ⟨.type "tuple", td_7_ANSWERS, .seq #[.str "skip" u0_7_ANSWERS, .str "wait" u1_7_ANSWERS, .str "wound" u2_7_ANSWERS, .str "abort" u3_7_ANSWERS] tn_7_ANSWERS, ts_7_ANSWERS⟩)
    (tl_8_ANSWERS : K.lookup o8_ANSWERS = some ⟨.type "tuple", td_8_ANSWERS, .seq #[.str "put" u0_8_ANSWERS, .str "abort" u1_8_ANSWERS] tn_8_ANSWERS, ts_8_ANSWERS⟩)
    (tl_9_ANSWERS : K.lookup o9_ANSWERS = some ⟨.type "tuple", td_9_ANSWERS, .seq #[.str "put" u0_9_ANSWERS, .str "abort" u1_9_ANSWERS] tn_9_ANSWERS, ts_9_ANSWERS⟩)
    (tl_10_ANSWERS : K.lookup o10_ANSWERS = some ⟨.type "tuple", td_10_ANSWERS, .seq #[.str "skip" u0_10_ANSWERS, .str "abort" u1_10_ANSWERS] tn_10_ANSWERS, ts_10_ANSWERS⟩)
    (tl_11_ANSWERS : K.lookup o11_ANSWERS = some ⟨.type "tuple", td_11_ANSWERS, .seq #[.str "skip" u0_11_ANSWERS, .str "wait" u1_11_ANSWERS, .str "wound" u2_11_ANSWERS, .str "abort" u3_11_ANSWERS] tn_11_ANSWERS, ts_11_ANSWERS⟩)
    (tl_12_ANSWERS : K.lookup o12_ANSWERS = some ⟨.type "tuple", td_12_ANSWERS, .seq #[.str "skip" u0_12_ANSWERS, .str "wait" u1_12_ANSWERS, .str "wound" u2_12_ANSWERS, .str "abort" u3_12_ANSWERS] tn_12_ANSWERS, ts_12_ANSWERS⟩)
    (tl_13_ANSWERS : K.lookup o13_ANSWERS = some ⟨.type "tuple", td_13_ANSWERS, .seq #[.str "skip" u0_13_ANSWERS, .str "wait" u1_13_ANSWERS, .str "wound" u2_13_ANSWERS, .str "abort" u3_13_ANSWERS] tn_13_ANSWERS, ts_13_ANSWERS⟩)
    (dn0_ANSWERS : PySem.W.nsIn K o_ANSWERS "read late" = some (some (.ref o0_ANSWERS)))
    (dn1_ANSWERS : PySem.W.nsIn K o_ANSWERS "read under" = some (some (.ref o1_ANSWERS)))
    (dn2_ANSWERS : PySem.W.nsIn K o_ANSWERS "read below" = some (some (.ref o2_ANSWERS)))
    (dn3_ANSWERS : PySem.W.nsIn K o_ANSWERS "read above" = some (some (.ref o3_ANSWERS)))
    (dn4_ANSWERS : PySem.W.nsIn K o_ANSWERS "write late" = some (some (.ref o4_ANSWERS)))
    (dn5_ANSWERS : PySem.W.nsIn K o_ANSWERS "write under" = some (some (.ref o5_ANSWERS)))
    (dn6_ANSWERS : PySem.W.nsIn K o_ANSWERS "write below" = some (some (.ref o6_ANSWERS)))
    (dn7_ANSWERS : PySem.W.nsIn K o_ANSWERS "write above" = some (some (.ref o7_ANSWERS)))
    (dn8_ANSWERS : PySem.W.nsIn K o_ANSWERS "write free passed" = some (some (.ref o8_ANSWERS)))
    (dn9_ANSWERS : PySem.W.nsIn K o_ANSWERS "write own passed" = some (some (.ref o9_ANSWERS)))
    (dn10_ANSWERS : PySem.W.nsIn K o_ANSWERS "write late passed" = some (some (.ref o10_ANSWERS)))
    (dn11_ANSWERS : PySem.W.nsIn K o_ANSWERS "write under passed" = some (some (.ref o11_ANSWERS)))
    (dn12_ANSWERS : PySem.W.nsIn K o_ANSWERS "write below passed" = some (some (.ref o12_ANSWERS)))
    (dn13_ANSWERS : PySem.W.nsIn K o_ANSWERS "write above passed" = some (some (.ref o13_ANSWERS)))
    (gv_MOST_KEPT : PySem.W.nsIn K mainGlobals "MOST_KEPT" = some (some (.int 20 tk_MOST_KEPT)))
    (n_all : PySem.W.nsIn K mainGlobals "all" = some none)
    (n_bool : PySem.W.nsIn K mainGlobals "bool" = some none)
    (n_dict : PySem.W.nsIn K mainGlobals "dict" = some none)
    (n_enumerate : PySem.W.nsIn K mainGlobals "enumerate" = some none)
    (n_int : PySem.W.nsIn K mainGlobals "int" = some none)
    (n_isinstance : PySem.W.nsIn K mainGlobals "isinstance" = some none)
    (n_len : PySem.W.nsIn K mainGlobals "len" = some none)
    (n_range : PySem.W.nsIn K mainGlobals "range" = some none)
    (n_sorted : PySem.W.nsIn K mainGlobals "sorted" = some none)
    (n_str : PySem.W.nsIn K mainGlobals "str" = some none)
    (n_super : PySem.W.nsIn K mainGlobals "super" = some none)
    (n_tuple : PySem.W.nsIn K mainGlobals "tuple" = some none)
    (n_zip : PySem.W.nsIn K mainGlobals "zip" = some none)
    : ∃ T : Txt w K mg, T.f_law = fa := by
  refine ⟨{
    isg := ⟨z_hn, z_ht⟩,
    c_StampError := c_StampError,
    g_StampError := PySem.W.mg_of X G gc_StampError,
    k_StampError := kc_StampError,
    c_BadEntry := c_BadEntry,
    g_BadEntry := PySem.W.mg_of X G gc_BadEntry,
    k_BadEntry := kc_BadEntry,
    c_BadAnswer := c_BadAnswer,
    g_BadAnswer := PySem.W.mg_of X G gc_BadAnswer,
    k_BadAnswer := kc_BadAnswer,
    c_BadSetting := c_BadSetting,
    g_BadSetting := PySem.W.mg_of X G gc_BadSetting,
    k_BadSetting := kc_BadSetting,
    c_BadStep := c_BadStep,
    g_BadStep := PySem.W.mg_of X G gc_BadStep,
    k_BadStep := kc_BadStep,
    c_Item := c_Item,
    g_Item := PySem.W.mg_of X G gc_Item,
    k_Item := kc_Item,
    c_State := c_State,
    g_State := PySem.W.mg_of X G gc_State,
    k_State := kc_State,
    c_Book := c_Book,
    g_Book := PySem.W.mg_of X G gc_Book,
    k_Book := kc_Book,
    oex_StampError := ⟨⟨_, _, _, _, _, _, _, _, _, _, _, _, _, _, _, xl_StampError, rfl⟩, sa_StampError, xb_StampError, xt_StampError, kc_StampError⟩,
    excc_StampError := ⟨ga_StampError, gg_StampError, xb_StampError, hd_StampError, ha_StampError, z_hn, z_ht, hm_StampError⟩,
    xfc_StampError := ⟨ga_StampError, gg_StampError, xb_StampError, hd_StampError⟩,
    exm_StampError_StampError := PySem.W.exm_ref xb_StampError hd_StampError xt_StampError sb_StampError_StampError,
    kit_StampError_StampError := ko_StampError_StampError,
    exm_StampError_BadEntry := PySem.W.exm_ref xb_BadEntry hd_BadEntry xt_BadEntry sb_StampError_BadEntry,
    kit_StampError_BadEntry := ko_StampError_BadEntry,
    exm_StampError_BadAnswer := PySem.W.exm_ref xb_BadAnswer hd_BadAnswer xt_BadAnswer sb_StampError_BadAnswer,
    kit_StampError_BadAnswer := ko_StampError_BadAnswer,
    exm_StampError_BadSetting := PySem.W.exm_ref xb_BadSetting hd_BadSetting xt_BadSetting sb_StampError_BadSetting,
    kit_StampError_BadSetting := ko_StampError_BadSetting,
    exm_StampError_BadStep := PySem.W.exm_ref xb_BadStep hd_BadStep xt_BadStep sb_StampError_BadStep,
    kit_StampError_BadStep := ko_StampError_BadStep,
    kit_StampError_VE := kv_StampError,
    oex_BadEntry := ⟨⟨_, _, _, _, _, _, _, _, _, _, _, _, _, _, _, xl_BadEntry, rfl⟩, sa_BadEntry, xb_BadEntry, xt_BadEntry, kc_BadEntry⟩,
    excc_BadEntry := ⟨ga_BadEntry, gg_BadEntry, xb_BadEntry, hd_BadEntry, ha_BadEntry, z_hn, z_ht, hm_BadEntry⟩,
    xfc_BadEntry := ⟨ga_BadEntry, gg_BadEntry, xb_BadEntry, hd_BadEntry⟩,
    exm_BadEntry_StampError := PySem.W.exm_ref xb_StampError hd_StampError xt_StampError sb_BadEntry_StampError,
    kit_BadEntry_StampError := ko_BadEntry_StampError,
    exm_BadEntry_BadEntry := PySem.W.exm_ref xb_BadEntry hd_BadEntry xt_BadEntry sb_BadEntry_BadEntry,
    kit_BadEntry_BadEntry := ko_BadEntry_BadEntry,
    exm_BadEntry_BadAnswer := PySem.W.exm_ref xb_BadAnswer hd_BadAnswer xt_BadAnswer sb_BadEntry_BadAnswer,
    kit_BadEntry_BadAnswer := ko_BadEntry_BadAnswer,
    exm_BadEntry_BadSetting := PySem.W.exm_ref xb_BadSetting hd_BadSetting xt_BadSetting sb_BadEntry_BadSetting,
    kit_BadEntry_BadSetting := ko_BadEntry_BadSetting,
    exm_BadEntry_BadStep := PySem.W.exm_ref xb_BadStep hd_BadStep xt_BadStep sb_BadEntry_BadStep,
    kit_BadEntry_BadStep := ko_BadEntry_BadStep,
    kit_BadEntry_VE := kv_BadEntry,
    na_BadEntry_entry := na_BadEntry_entry,
    oex_BadAnswer := ⟨⟨_, _, _, _, _, _, _, _, _, _, _, _, _, _, _, xl_BadAnswer, rfl⟩, sa_BadAnswer, xb_BadAnswer, xt_BadAnswer, kc_BadAnswer⟩,
    excc_BadAnswer := ⟨ga_BadAnswer, gg_BadAnswer, xb_BadAnswer, hd_BadAnswer, ha_BadAnswer, z_hn, z_ht, hm_BadAnswer⟩,
    xfc_BadAnswer := ⟨ga_BadAnswer, gg_BadAnswer, xb_BadAnswer, hd_BadAnswer⟩,
    exm_BadAnswer_StampError := PySem.W.exm_ref xb_StampError hd_StampError xt_StampError sb_BadAnswer_StampError,
    kit_BadAnswer_StampError := ko_BadAnswer_StampError,
    exm_BadAnswer_BadEntry := PySem.W.exm_ref xb_BadEntry hd_BadEntry xt_BadEntry sb_BadAnswer_BadEntry,
    kit_BadAnswer_BadEntry := ko_BadAnswer_BadEntry,
    exm_BadAnswer_BadAnswer := PySem.W.exm_ref xb_BadAnswer hd_BadAnswer xt_BadAnswer sb_BadAnswer_BadAnswer,
    kit_BadAnswer_BadAnswer := ko_BadAnswer_BadAnswer,
    exm_BadAnswer_BadSetting := PySem.W.exm_ref xb_BadSetting hd_BadSetting xt_BadSetting sb_BadAnswer_BadSetting,
    kit_BadAnswer_BadSetting := ko_BadAnswer_BadSetting,
    exm_BadAnswer_BadStep := PySem.W.exm_ref xb_BadStep hd_BadStep xt_BadStep sb_BadAnswer_BadStep,
    kit_BadAnswer_BadStep := ko_BadAnswer_BadStep,
    kit_BadAnswer_VE := kv_BadAnswer,
    na_BadAnswer_answer := na_BadAnswer_answer,
    na_BadAnswer_entry := na_BadAnswer_entry,
    oex_BadSetting := ⟨⟨_, _, _, _, _, _, _, _, _, _, _, _, _, _, _, xl_BadSetting, rfl⟩, sa_BadSetting, xb_BadSetting, xt_BadSetting, kc_BadSetting⟩,
    excc_BadSetting := ⟨ga_BadSetting, gg_BadSetting, xb_BadSetting, hd_BadSetting, ha_BadSetting, z_hn, z_ht, hm_BadSetting⟩,
    xfc_BadSetting := ⟨ga_BadSetting, gg_BadSetting, xb_BadSetting, hd_BadSetting⟩,
    exm_BadSetting_StampError := PySem.W.exm_ref xb_StampError hd_StampError xt_StampError sb_BadSetting_StampError,
    kit_BadSetting_StampError := ko_BadSetting_StampError,
    exm_BadSetting_BadEntry := PySem.W.exm_ref xb_BadEntry hd_BadEntry xt_BadEntry sb_BadSetting_BadEntry,
    kit_BadSetting_BadEntry := ko_BadSetting_BadEntry,
    exm_BadSetting_BadAnswer := PySem.W.exm_ref xb_BadAnswer hd_BadAnswer xt_BadAnswer sb_BadSetting_BadAnswer,
    kit_BadSetting_BadAnswer := ko_BadSetting_BadAnswer,
    exm_BadSetting_BadSetting := PySem.W.exm_ref xb_BadSetting hd_BadSetting xt_BadSetting sb_BadSetting_BadSetting,
    kit_BadSetting_BadSetting := ko_BadSetting_BadSetting,
    exm_BadSetting_BadStep := PySem.W.exm_ref xb_BadStep hd_BadStep xt_BadStep sb_BadSetting_BadStep,
    kit_BadSetting_BadStep := ko_BadSetting_BadStep,
    kit_BadSetting_VE := kv_BadSetting,
    na_BadSetting_given := na_BadSetting_given,
    oex_BadStep := ⟨⟨_, _, _, _, _, _, _, _, _, _, _, _, _, _, _, xl_BadStep, rfl⟩, sa_BadStep, xb_BadStep, xt_BadStep, kc_BadStep⟩,
    excc_BadStep := ⟨ga_BadStep, gg_BadStep, xb_BadStep, hd_BadStep, ha_BadStep, z_hn, z_ht, hm_BadStep⟩,
    xfc_BadStep := ⟨ga_BadStep, gg_BadStep, xb_BadStep, hd_BadStep⟩,
    exm_BadStep_StampError := PySem.W.exm_ref xb_StampError hd_StampError xt_StampError sb_BadStep_StampError,
    kit_BadStep_StampError := ko_BadStep_StampError,
    exm_BadStep_BadEntry := PySem.W.exm_ref xb_BadEntry hd_BadEntry xt_BadEntry sb_BadStep_BadEntry,
    kit_BadStep_BadEntry := ko_BadStep_BadEntry,
    exm_BadStep_BadAnswer := PySem.W.exm_ref xb_BadAnswer hd_BadAnswer xt_BadAnswer sb_BadStep_BadAnswer,
    kit_BadStep_BadAnswer := ko_BadStep_BadAnswer,
    exm_BadStep_BadSetting := PySem.W.exm_ref xb_BadSetting hd_BadSetting xt_BadSetting sb_BadStep_BadSetting,
    kit_BadStep_BadSetting := ko_BadStep_BadSetting,
    exm_BadStep_BadStep := PySem.W.exm_ref xb_BadStep hd_BadStep xt_BadStep sb_BadStep_BadStep,
    kit_BadStep_BadStep := ko_BadStep_BadStep,
    kit_BadStep_VE := kv_BadStep,
    na_BadStep_index := na_BadStep_index,
    cl_Item := ⟨pg_Item, hd_Item, po_Item, sa_Item⟩,
    isi_Item := ⟨ha_Item, hm_Item⟩,
    kit_Item := ko_Item,
    na_Item_holder := na_Item_holder,
    na_Item_kept := na_Item_kept,
    na_Item_reader := na_Item_reader,
    na_Item_value := na_Item_value,
    cl_State := ⟨pg_State, hd_State, po_State, sa_State⟩,
    isi_State := ⟨ha_State, hm_State⟩,
    kit_State := ko_State,
    na_State_bonds := na_State_bonds,
    na_State_over := na_State_over,
    na_State_store := na_State_store,
    cl_Book := ⟨pg_Book, hd_Book, po_Book, sa_Book⟩,
    isi_Book := ⟨ha_Book, hm_Book⟩,
    kit_Book := ko_Book,
    na_Book__answers := na_Book__answers,
    na_Book__ends := na_Book__ends,
    na_Book__keep := na_Book__keep,
    f_BadEntry_init := f_BadEntry_init,
    d_BadEntry_init := PySem.W.fnX "__init__" "BadEntry.__init__" (defArgs s_BadEntry_init) (defBody s_BadEntry_init) (defScope s_BadEntry_init) [(("__class__" : Str), cc_BadEntry_init)] .none kV_BadEntry_init dc_BadEntry_init pm_BadEntry_init an_BadEntry_init (.ref cdr_BadEntry_init) ct_BadEntry_init,
    cc_BadEntry_init := cc_BadEntry_init,
    cdr_BadEntry_init := cdr_BadEntry_init,
    S_BadEntry_init := ⟨⟨⟨_, _, _, _, _, _, _, _, _, _, _, _, _, _, _, xl_BadEntry, rfl⟩, sa_BadEntry, xb_BadEntry, xt_BadEntry, kc_BadEntry⟩, su_BadEntry_init, ve_BadEntry_init, md_BadEntry_init, z_th, PySem.W.mg_none_of X G z_su, rfl, rfl, ⟨_, _, _, _, _, _, _, _, rfl, l_BadEntry_init⟩, ⟨_, _, _, _, _, _, cv_BadEntry_init, cw_BadEntry_init, cx_BadEntry_init⟩, c_BadEntry_init, ⟨_, _, _, cl_BadEntry_init⟩, tp_BadEntry_init⟩,
    i_BadEntry_init := a_BadEntry_init,
    t_BadEntry_init := ti_BadEntry_init,
    f_BadAnswer_init := f_BadAnswer_init,
    d_BadAnswer_init := PySem.W.fnX "__init__" "BadAnswer.__init__" (defArgs s_BadAnswer_init) (defBody s_BadAnswer_init) (defScope s_BadAnswer_init) [(("__class__" : Str), cc_BadAnswer_init)] .none kV_BadAnswer_init dc_BadAnswer_init pm_BadAnswer_init an_BadAnswer_init (.ref cdr_BadAnswer_init) ct_BadAnswer_init,
    cc_BadAnswer_init := cc_BadAnswer_init,
    cdr_BadAnswer_init := cdr_BadAnswer_init,
    S_BadAnswer_init := ⟨⟨⟨_, _, _, _, _, _, _, _, _, _, _, _, _, _, _, xl_BadAnswer, rfl⟩, sa_BadAnswer, xb_BadAnswer, xt_BadAnswer, kc_BadAnswer⟩, su_BadAnswer_init, ve_BadAnswer_init, md_BadAnswer_init, z_th, PySem.W.mg_none_of X G z_su, rfl, rfl, ⟨_, _, _, _, _, _, _, _, rfl, l_BadAnswer_init⟩, ⟨_, _, _, _, _, _, cv_BadAnswer_init, cw_BadAnswer_init, cx_BadAnswer_init⟩, c_BadAnswer_init, ⟨_, _, _, cl_BadAnswer_init⟩, tp_BadAnswer_init⟩,
    i_BadAnswer_init := a_BadAnswer_init,
    t_BadAnswer_init := ti_BadAnswer_init,
    f_BadSetting_init := f_BadSetting_init,
    d_BadSetting_init := PySem.W.fnX "__init__" "BadSetting.__init__" (defArgs s_BadSetting_init) (defBody s_BadSetting_init) (defScope s_BadSetting_init) [(("__class__" : Str), cc_BadSetting_init)] .none kV_BadSetting_init dc_BadSetting_init pm_BadSetting_init an_BadSetting_init (.ref cdr_BadSetting_init) ct_BadSetting_init,
    cc_BadSetting_init := cc_BadSetting_init,
    cdr_BadSetting_init := cdr_BadSetting_init,
    S_BadSetting_init := ⟨⟨⟨_, _, _, _, _, _, _, _, _, _, _, _, _, _, _, xl_BadSetting, rfl⟩, sa_BadSetting, xb_BadSetting, xt_BadSetting, kc_BadSetting⟩, su_BadSetting_init, ve_BadSetting_init, md_BadSetting_init, z_th, PySem.W.mg_none_of X G z_su, rfl, rfl, ⟨_, _, _, _, _, _, _, _, rfl, l_BadSetting_init⟩, ⟨_, _, _, _, _, _, cv_BadSetting_init, cw_BadSetting_init, cx_BadSetting_init⟩, c_BadSetting_init, ⟨_, _, _, cl_BadSetting_init⟩, tp_BadSetting_init⟩,
    i_BadSetting_init := a_BadSetting_init,
    t_BadSetting_init := ti_BadSetting_init,
    f_BadStep_init := f_BadStep_init,
    d_BadStep_init := PySem.W.fnX "__init__" "BadStep.__init__" (defArgs s_BadStep_init) (defBody s_BadStep_init) (defScope s_BadStep_init) [(("__class__" : Str), cc_BadStep_init)] .none kV_BadStep_init dc_BadStep_init pm_BadStep_init an_BadStep_init (.ref cdr_BadStep_init) ct_BadStep_init,
    cc_BadStep_init := cc_BadStep_init,
    cdr_BadStep_init := cdr_BadStep_init,
    S_BadStep_init := ⟨⟨⟨_, _, _, _, _, _, _, _, _, _, _, _, _, _, _, xl_BadStep, rfl⟩, sa_BadStep, xb_BadStep, xt_BadStep, kc_BadStep⟩, su_BadStep_init, ve_BadStep_init, md_BadStep_init, z_th, PySem.W.mg_none_of X G z_su, rfl, rfl, ⟨_, _, _, _, _, _, _, _, rfl, l_BadStep_init⟩, ⟨_, _, _, _, _, _, cv_BadStep_init, cw_BadStep_init, cx_BadStep_init⟩, c_BadStep_init, ⟨_, _, _, cl_BadStep_init⟩, tp_BadStep_init⟩,
    i_BadStep_init := a_BadStep_init,
    t_BadStep_init := ti_BadStep_init,
    f_Item_init := f_Item_init,
    d_Item_init := PySem.W.fnOf "__init__" "Item.__init__" (defArgs s_Item_init) (defBody s_Item_init) (defScope s_Item_init) .none kV_Item_init dc_Item_init pm_Item_init an_Item_init cd_Item_init ct_Item_init,
    F_Item_init := fun_mk l_Item_init c_Item_init k_Item_init,
    m_Item_init := ⟨a_Item_init, fn_Item_init, k_Item_init⟩,
    mk_Item := ⟨mk_Item, a_Item_init, fn_Item_init, kc_Item⟩,
    f_State_init := f_State_init,
    d_State_init := PySem.W.fnOf "__init__" "State.__init__" (defArgs s_State_init) (defBody s_State_init) (defScope s_State_init) .none kV_State_init dc_State_init pm_State_init an_State_init cd_State_init ct_State_init,
    F_State_init := fun_mk l_State_init c_State_init k_State_init,
    m_State_init := ⟨a_State_init, fn_State_init, k_State_init⟩,
    mk_State := ⟨mk_State, a_State_init, fn_State_init, kc_State⟩,
    f_Book_init := f_Book_init,
    d_Book_init := PySem.W.fnOf "__init__" "Book.__init__" (defArgs s_Book_init) (defBody s_Book_init) (defScope s_Book_init) (.ref T_Book_init) (.ref KD_Book_init) dc_Book_init pm_Book_init an_Book_init cd_Book_init ct_Book_init,
    F_Book_init := ⟨⟨_, _, _, _, _, _, _, _, _, _, rfl, l_Book_init, c_Book_init, .inr ⟨by simp, _, _, [.none], _, rfl, T1_Book_init, rfl, .cons rfl (.nil)⟩, .inr ⟨_, rfl, fun q hq => by
      simp only [List.mem_cons, List.not_mem_nil, or_false] at hq
      rcases hq with rfl | rfl
      · exact ⟨_, kw0_Book_init, ⟨_, rfl⟩⟩
      · exact ⟨_, kw1_Book_init, ⟨_, rfl⟩⟩⟩⟩, k_Book_init⟩,
    m_Book_init := ⟨a_Book_init, fn_Book_init, k_Book_init⟩,
    mk_Book := ⟨mk_Book, a_Book_init, fn_Book_init, kc_Book⟩,
    f_Book_ends := f_Book_ends,
    pr_Book_ends := pr_Book_ends,
    p_Book_ends := ⟨a_Book_ends, pg_Book_ends, pt_Book_ends, ⟨_, pc_Book_ends⟩⟩,
    d_Book_ends := PySem.W.fnOf "ends" "Book.ends" (defArgs s_Book_ends) (defBody s_Book_ends) (defScope s_Book_ends) .none kV_Book_ends dc_Book_ends pm_Book_ends an_Book_ends cd_Book_ends ct_Book_ends,
    F_Book_ends := fun_mk l_Book_ends c_Book_ends k_Book_ends,
    f_Book_keep := f_Book_keep,
    pr_Book_keep := pr_Book_keep,
    p_Book_keep := ⟨a_Book_keep, pg_Book_keep, pt_Book_keep, ⟨_, pc_Book_keep⟩⟩,
    d_Book_keep := PySem.W.fnOf "keep" "Book.keep" (defArgs s_Book_keep) (defBody s_Book_keep) (defScope s_Book_keep) .none kV_Book_keep dc_Book_keep pm_Book_keep an_Book_keep cd_Book_keep ct_Book_keep,
    F_Book_keep := fun_mk l_Book_keep c_Book_keep k_Book_keep,
    f_Book_getitem := f_Book_getitem,
    d_Book_getitem := PySem.W.fnOf "__getitem__" "Book.__getitem__" (defArgs s_Book_getitem) (defBody s_Book_getitem) (defScope s_Book_getitem) .none kV_Book_getitem dc_Book_getitem pm_Book_getitem an_Book_getitem cd_Book_getitem ct_Book_getitem,
    F_Book_getitem := fun_mk l_Book_getitem c_Book_getitem k_Book_getitem,
    m_Book_getitem := ⟨a_Book_getitem, fn_Book_getitem, k_Book_getitem⟩,
    nd_Book := nd_Book,
    fi_Book_getitem := fi_Book_getitem,
    f_is_stamp := f_is_stamp,
    d_is_stamp := PySem.W.fnOf "is_stamp" "is_stamp" (defArgs s_is_stamp) (defBody s_is_stamp) (defScope s_is_stamp) (.ref T_is_stamp) kV_is_stamp dc_is_stamp pm_is_stamp an_is_stamp cd_is_stamp ct_is_stamp,
    F_is_stamp := ⟨⟨_, _, _, _, _, _, _, _, _, _, rfl, l_is_stamp, c_is_stamp, .inr ⟨by simp, _, _, [.int 0 tk0_is_stamp], _, rfl, T1_is_stamp, rfl, .cons ⟨_, rfl⟩ (.nil)⟩, .inl rfl⟩, k_is_stamp⟩,
    g_is_stamp := PySem.W.mg_of X G a_is_stamp,
    f_place := f_place,
    d_place := PySem.W.fnOf "place" "place" (defArgs s_place) (defBody s_place) (defScope s_place) .none kV_place dc_place pm_place an_place cd_place ct_place,
    F_place := fun_mk l_place c_place k_place,
    g_place := PySem.W.mg_of X G a_place,
    f_first_state := f_first_state,
    d_first_state := PySem.W.fnOf "first_state" "first_state" (defArgs s_first_state) (defBody s_first_state) (defScope s_first_state) .none kV_first_state dc_first_state pm_first_state an_first_state cd_first_state ct_first_state,
    F_first_state := fun_mk l_first_state c_first_state k_first_state,
    g_first_state := PySem.W.mg_of X G a_first_state,
    f_item_of := f_item_of,
    d_item_of := PySem.W.fnOf "item_of" "item_of" (defArgs s_item_of) (defBody s_item_of) (defScope s_item_of) .none kV_item_of dc_item_of pm_item_of an_item_of cd_item_of ct_item_of,
    F_item_of := fun_mk l_item_of c_item_of k_item_of,
    g_item_of := PySem.W.mg_of X G a_item_of,
    f_ascending := f_ascending,
    d_ascending := PySem.W.fnOf "ascending" "ascending" (defArgs s_ascending) (defBody s_ascending) (defScope s_ascending) .none kV_ascending dc_ascending pm_ascending an_ascending cd_ascending ct_ascending,
    F_ascending := fun_mk l_ascending c_ascending k_ascending,
    g_ascending := PySem.W.mg_of X G a_ascending,
    f_taken := f_taken,
    d_taken := PySem.W.fnOf "taken" "taken" (defArgs s_taken) (defBody s_taken) (defScope s_taken) .none kV_taken dc_taken pm_taken an_taken cd_taken ct_taken,
    F_taken := fun_mk l_taken c_taken k_taken,
    g_taken := PySem.W.mg_of X G a_taken,
    f_committed := f_committed,
    d_committed := PySem.W.fnOf "committed" "committed" (defArgs s_committed) (defBody s_committed) (defScope s_committed) .none kV_committed dc_committed pm_committed an_committed cd_committed ct_committed,
    F_committed := fun_mk l_committed c_committed k_committed,
    g_committed := PySem.W.mg_of X G a_committed,
    f_settled := f_settled,
    d_settled := PySem.W.fnOf "settled" "settled" (defArgs s_settled) (defBody s_settled) (defScope s_settled) .none kV_settled dc_settled pm_settled an_settled cd_settled ct_settled,
    F_settled := fun_mk l_settled c_settled k_settled,
    g_settled := PySem.W.mg_of X G a_settled,
    f_aborted := f_aborted,
    d_aborted := PySem.W.fnOf "aborted" "aborted" (defArgs s_aborted) (defBody s_aborted) (defScope s_aborted) .none kV_aborted dc_aborted pm_aborted an_aborted cd_aborted ct_aborted,
    F_aborted := fun_mk l_aborted c_aborted k_aborted,
    g_aborted := PySem.W.mg_of X G a_aborted,
    f_without := f_without,
    d_without := PySem.W.fnOf "without" "without" (defArgs s_without) (defBody s_without) (defScope s_without) .none kV_without dc_without pm_without an_without cd_without ct_without,
    F_without := fun_mk l_without c_without k_without,
    g_without := PySem.W.mg_of X G a_without,
    f_falling := f_falling,
    d_falling := PySem.W.fnOf "falling" "falling" (defArgs s_falling) (defBody s_falling) (defScope s_falling) .none kV_falling dc_falling pm_falling an_falling cd_falling ct_falling,
    F_falling := fun_mk l_falling c_falling k_falling,
    g_falling := PySem.W.mg_of X G a_falling,
    f_released := f_released,
    d_released := PySem.W.fnOf "released" "released" (defArgs s_released) (defBody s_released) (defScope s_released) .none kV_released dc_released pm_released an_released cd_released ct_released,
    F_released := fun_mk l_released c_released k_released,
    g_released := PySem.W.mg_of X G a_released,
    f_requested := f_requested,
    d_requested := PySem.W.fnOf "requested" "requested" (defArgs s_requested) (defBody s_requested) (defScope s_requested) .none kV_requested dc_requested pm_requested an_requested cd_requested ct_requested,
    F_requested := fun_mk l_requested c_requested k_requested,
    g_requested := PySem.W.mg_of X G a_requested,
    f_asked := f_asked,
    d_asked := PySem.W.fnOf "asked" "asked" (defArgs s_asked) (defBody s_asked) (defScope s_asked) .none kV_asked dc_asked pm_asked an_asked cd_asked ct_asked,
    F_asked := fun_mk l_asked c_asked k_asked,
    g_asked := PySem.W.mg_of X G a_asked,
    f_entry_met := f_entry_met,
    d_entry_met := PySem.W.fnOf "entry_met" "entry_met" (defArgs s_entry_met) (defBody s_entry_met) (defScope s_entry_met) .none kV_entry_met dc_entry_met pm_entry_met an_entry_met cd_entry_met ct_entry_met,
    F_entry_met := fun_mk l_entry_met c_entry_met k_entry_met,
    g_entry_met := PySem.W.mg_of X G a_entry_met,
    f_fixed_answer := f_fixed_answer,
    d_fixed_answer := PySem.W.fnOf "fixed_answer" "fixed_answer" (defArgs s_fixed_answer) (defBody s_fixed_answer) (defScope s_fixed_answer) .none kV_fixed_answer dc_fixed_answer pm_fixed_answer an_fixed_answer cd_fixed_answer ct_fixed_answer,
    F_fixed_answer := fun_mk l_fixed_answer c_fixed_answer k_fixed_answer,
    g_fixed_answer := PySem.W.mg_of X G a_fixed_answer,
    f_older_values := f_older_values,
    d_older_values := PySem.W.fnOf "older_values" "older_values" (defArgs s_older_values) (defBody s_older_values) (defScope s_older_values) .none kV_older_values dc_older_values pm_older_values an_older_values cd_older_values ct_older_values,
    F_older_values := fun_mk l_older_values c_older_values k_older_values,
    g_older_values := PySem.W.mg_of X G a_older_values,
    f_value_read := f_value_read,
    d_value_read := PySem.W.fnOf "value_read" "value_read" (defArgs s_value_read) (defBody s_value_read) (defScope s_value_read) .none kV_value_read dc_value_read pm_value_read an_value_read cd_value_read ct_value_read,
    F_value_read := fun_mk l_value_read c_value_read k_value_read,
    g_value_read := PySem.W.mg_of X G a_value_read,
    f_binds := f_binds,
    d_binds := PySem.W.fnOf "binds" "binds" (defArgs s_binds) (defBody s_binds) (defScope s_binds) .none kV_binds dc_binds pm_binds an_binds cd_binds ct_binds,
    F_binds := fun_mk l_binds c_binds k_binds,
    g_binds := PySem.W.mg_of X G a_binds,
    f_with_bond := f_with_bond,
    d_with_bond := PySem.W.fnOf "with_bond" "with_bond" (defArgs s_with_bond) (defBody s_with_bond) (defScope s_with_bond) .none kV_with_bond dc_with_bond pm_with_bond an_with_bond cd_with_bond ct_with_bond,
    F_with_bond := fun_mk l_with_bond c_with_bond k_with_bond,
    g_with_bond := PySem.W.mg_of X G a_with_bond,
    f_with_reader := f_with_reader,
    d_with_reader := PySem.W.fnOf "with_reader" "with_reader" (defArgs s_with_reader) (defBody s_with_reader) (defScope s_with_reader) .none kV_with_reader dc_with_reader pm_with_reader an_with_reader cd_with_reader ct_with_reader,
    F_with_reader := fun_mk l_with_reader c_with_reader k_with_reader,
    g_with_reader := PySem.W.mg_of X G a_with_reader,
    f_with_item := f_with_item,
    d_with_item := PySem.W.fnOf "with_item" "with_item" (defArgs s_with_item) (defBody s_with_item) (defScope s_with_item) .none kV_with_item dc_with_item pm_with_item an_with_item cd_with_item ct_with_item,
    F_with_item := fun_mk l_with_item c_with_item k_with_item,
    g_with_item := PySem.W.mg_of X G a_with_item,
    f_fault := f_fault,
    d_fault := PySem.W.fnOf "fault" "fault" (defArgs s_fault) (defBody s_fault) (defScope s_fault) .none kV_fault dc_fault pm_fault an_fault cd_fault ct_fault,
    F_fault := fun_mk l_fault c_fault k_fault,
    g_fault := PySem.W.mg_of X G a_fault,
    f_traced := f_traced,
    d_traced := PySem.W.fnOf "traced" "traced" (defArgs s_traced) (defBody s_traced) (defScope s_traced) .none kV_traced dc_traced pm_traced an_traced cd_traced ct_traced,
    F_traced := fun_mk l_traced c_traced k_traced,
    g_traced := PySem.W.mg_of X G a_traced,
    f_is_serial := f_is_serial,
    d_is_serial := PySem.W.fnOf "is_serial" "is_serial" (defArgs s_is_serial) (defBody s_is_serial) (defScope s_is_serial) .none kV_is_serial dc_is_serial pm_is_serial an_is_serial cd_is_serial ct_is_serial,
    F_is_serial := fun_mk l_is_serial c_is_serial k_is_serial,
    g_is_serial := PySem.W.mg_of X G a_is_serial,
    f_requests_granted := f_requests_granted,
    d_requests_granted := PySem.W.fnOf "requests_granted" "requests_granted" (defArgs s_requests_granted) (defBody s_requests_granted) (defScope s_requests_granted) .none kV_requests_granted dc_requests_granted pm_requests_granted an_requests_granted cd_requests_granted ct_requests_granted,
    F_requests_granted := fun_mk l_requests_granted c_requests_granted k_requests_granted,
    g_requests_granted := PySem.W.mg_of X G a_requests_granted,
    f_check_run := f_check_run,
    d_check_run := PySem.W.fnOf "check_run" "check_run" (defArgs s_check_run) (defBody s_check_run) (defScope s_check_run) .none kV_check_run dc_check_run pm_check_run an_check_run cd_check_run ct_check_run,
    F_check_run := fun_mk l_check_run c_check_run k_check_run,
    g_check_run := PySem.W.mg_of X G a_check_run,
    f_is_step := f_is_step,
    d_is_step := PySem.W.fnOf "is_step" "is_step" (defArgs s_is_step) (defBody s_is_step) (defScope s_is_step) .none kV_is_step dc_is_step pm_is_step an_is_step cd_is_step ct_is_step,
    F_is_step := fun_mk l_is_step c_is_step k_is_step,
    g_is_step := PySem.W.mg_of X G a_is_step,
    f_is_name := f_is_name,
    d_is_name := PySem.W.fnOf "is_name" "is_name" (defArgs s_is_name) (defBody s_is_name) (defScope s_is_name) .none kV_is_name dc_is_name pm_is_name an_is_name cd_is_name ct_is_name,
    F_is_name := fun_mk l_is_name c_is_name k_is_name,
    g_is_name := PySem.W.mg_of X G a_is_name,
    f_steps_of := f_steps_of,
    d_steps_of := PySem.W.fnOf "steps_of" "steps_of" (defArgs s_steps_of) (defBody s_steps_of) (defScope s_steps_of) (.ref T_steps_of) kV_steps_of dc_steps_of pm_steps_of an_steps_of cd_steps_of ct_steps_of,
    F_steps_of := ⟨⟨_, _, _, _, _, _, _, _, _, _, rfl, l_steps_of, c_steps_of, .inr ⟨by simp, _, _, [.str "x" tk0_steps_of], _, rfl, T1_steps_of, rfl, .cons ⟨_, rfl⟩ (.nil)⟩, .inl rfl⟩, k_steps_of⟩,
    g_steps_of := PySem.W.mg_of X G a_steps_of,
    f_is_numeral := f_is_numeral,
    d_is_numeral := PySem.W.fnOf "is_numeral" "is_numeral" (defArgs s_is_numeral) (defBody s_is_numeral) (defScope s_is_numeral) .none kV_is_numeral dc_is_numeral pm_is_numeral an_is_numeral cd_is_numeral ct_is_numeral,
    F_is_numeral := fun_mk l_is_numeral c_is_numeral k_is_numeral,
    g_is_numeral := PySem.W.mg_of X G a_is_numeral,
    f_fault_runs := f_fault_runs,
    d_fault_runs := PySem.W.fnOf "fault_runs" "fault_runs" (defArgs s_fault_runs) (defBody s_fault_runs) (defScope s_fault_runs) .none kV_fault_runs dc_fault_runs pm_fault_runs an_fault_runs cd_fault_runs ct_fault_runs,
    F_fault_runs := fun_mk l_fault_runs c_fault_runs k_fault_runs,
    g_fault_runs := PySem.W.mg_of X G a_fault_runs,
    f_shortest_first := f_shortest_first,
    d_shortest_first := PySem.W.fnOf "shortest_first" "shortest_first" (defArgs s_shortest_first) (defBody s_shortest_first) (defScope s_shortest_first) .none kV_shortest_first dc_shortest_first pm_shortest_first an_shortest_first cd_shortest_first ct_shortest_first,
    F_shortest_first := fun_mk l_shortest_first c_shortest_first k_shortest_first,
    g_shortest_first := PySem.W.mg_of X G a_shortest_first,
    f_followed := f_followed,
    d_followed := PySem.W.fnOf "followed" "followed" (defArgs s_followed) (defBody s_followed) (defScope s_followed) .none kV_followed dc_followed pm_followed an_followed cd_followed ct_followed,
    F_followed := fun_mk l_followed c_followed k_followed,
    g_followed := PySem.W.mg_of X G a_followed,
    f_ways := f_ways,
    d_ways := PySem.W.fnOf "ways" "ways" (defArgs s_ways) (defBody s_ways) (defScope s_ways) .none kV_ways dc_ways pm_ways an_ways cd_ways ct_ways,
    F_ways := fun_mk l_ways c_ways k_ways,
    g_ways := PySem.W.mg_of X G a_ways,
    f_answers_at := f_answers_at,
    d_answers_at := PySem.W.fnOf "answers_at" "answers_at" (defArgs s_answers_at) (defBody s_answers_at) (defScope s_answers_at) .none kV_answers_at dc_answers_at pm_answers_at an_answers_at cd_answers_at ct_answers_at,
    F_answers_at := fun_mk l_answers_at c_answers_at k_answers_at,
    g_answers_at := PySem.W.mg_of X G a_answers_at,
    f_check_answer := f_check_answer,
    d_check_answer := PySem.W.fnOf "check_answer" "check_answer" (defArgs s_check_answer) (defBody s_check_answer) (defScope s_check_answer) .none kV_check_answer dc_check_answer pm_check_answer an_check_answer cd_check_answer ct_check_answer,
    F_check_answer := fun_mk l_check_answer c_check_answer k_check_answer,
    g_check_answer := PySem.W.mg_of X G a_check_answer,
    f_is_keep := f_is_keep,
    d_is_keep := PySem.W.fnOf "is_keep" "is_keep" (defArgs s_is_keep) (defBody s_is_keep) (defScope s_is_keep) .none kV_is_keep dc_is_keep pm_is_keep an_is_keep cd_is_keep ct_is_keep,
    F_is_keep := fun_mk l_is_keep c_is_keep k_is_keep,
    g_is_keep := PySem.W.mg_of X G a_is_keep,
    f_erring := f_erring,
    d_erring := PySem.W.fnOf "erring" "erring" (defArgs s_erring) (defBody s_erring) (defScope s_erring) .none kV_erring dc_erring pm_erring an_erring cd_erring ct_erring,
    F_erring := fun_mk l_erring c_erring k_erring,
    g_erring := PySem.W.mg_of X G a_erring,
    f_first_that := f_first_that,
    d_first_that := PySem.W.fnOf "first_that" "first_that" (defArgs s_first_that) (defBody s_first_that) (defScope s_first_that) .none kV_first_that dc_first_that pm_first_that an_first_that cd_first_that ct_first_that,
    F_first_that := fun_mk l_first_that c_first_that k_first_that,
    g_first_that := PySem.W.mg_of X G a_first_that,
    f_has_fault := f_has_fault,
    d_has_fault := PySem.W.fnOf "has_fault" "has_fault" (defArgs s_has_fault) (defBody s_has_fault) (defScope s_has_fault) .none kV_has_fault dc_has_fault pm_has_fault an_has_fault cd_has_fault ct_has_fault,
    F_has_fault := fun_mk l_has_fault c_has_fault k_has_fault,
    g_has_fault := PySem.W.mg_of X G a_has_fault,
    f_law_cell := f_law_cell,
    d_law_cell := PySem.W.fnOf "_law_cell" "_law_cell" (defArgs s_law_cell) (defBody s_law_cell) (defScope s_law_cell) .none kV_law_cell dc_law_cell pm_law_cell an_law_cell cd_law_cell ct_law_cell,
    F_law_cell := fun_mk l_law_cell c_law_cell k_law_cell,
    g_law_cell := PySem.W.mg_of X G a_law_cell,
    f_law_row := f_law_row,
    d_law_row := PySem.W.fnOf "_law_row" "_law_row" (defArgs s_law_row) (defBody s_law_row) (defScope s_law_row) .none kV_law_row dc_law_row pm_law_row an_law_row cd_law_row ct_law_row,
    F_law_row := fun_mk l_law_row c_law_row k_law_row,
    g_law_row := PySem.W.mg_of X G a_law_row,
    f_law_entries := f_law_entries,
    d_law_entries := PySem.W.fnOf "_law_entries" "_law_entries" (defArgs s_law_entries) (defBody s_law_entries) (defScope s_law_entries) .none kV_law_entries dc_law_entries pm_law_entries an_law_entries cd_law_entries ct_law_entries,
    F_law_entries := fun_mk l_law_entries c_law_entries k_law_entries,
    g_law_entries := PySem.W.mg_of X G a_law_entries,
    f_law_choices := f_law_choices,
    d_law_choices := PySem.W.fnOf "_law_choices" "_law_choices" (defArgs s_law_choices) (defBody s_law_choices) (defScope s_law_choices) .none kV_law_choices dc_law_choices pm_law_choices an_law_choices cd_law_choices ct_law_choices,
    F_law_choices := fun_mk l_law_choices c_law_choices k_law_choices,
    g_law_choices := PySem.W.mg_of X G a_law_choices,
    f_law_table := f_law_table,
    d_law_table := PySem.W.fnOf "_law_table" "_law_table" (defArgs s_law_table) (defBody s_law_table) (defScope s_law_table) .none kV_law_table dc_law_table pm_law_table an_law_table cd_law_table ct_law_table,
    F_law_table := fun_mk l_law_table c_law_table k_law_table,
    g_law_table := PySem.W.mg_of X G a_law_table,
    f_law_fits := f_law_fits,
    d_law_fits := PySem.W.fnOf "_law_fits" "_law_fits" (defArgs s_law_fits) (defBody s_law_fits) (defScope s_law_fits) .none kV_law_fits dc_law_fits pm_law_fits an_law_fits cd_law_fits ct_law_fits,
    F_law_fits := fun_mk l_law_fits c_law_fits k_law_fits,
    g_law_fits := PySem.W.mg_of X G a_law_fits,
    f_law_sound := f_law_sound,
    d_law_sound := PySem.W.fnOf "_law_sound" "_law_sound" (defArgs s_law_sound) (defBody s_law_sound) (defScope s_law_sound) .none kV_law_sound dc_law_sound pm_law_sound an_law_sound cd_law_sound ct_law_sound,
    F_law_sound := fun_mk l_law_sound c_law_sound k_law_sound,
    g_law_sound := PySem.W.mg_of X G a_law_sound,
    f_law_terms := f_law_terms,
    d_law_terms := PySem.W.fnOf "_law_terms" "_law_terms" (defArgs s_law_terms) (defBody s_law_terms) (defScope s_law_terms) .none kV_law_terms dc_law_terms pm_law_terms an_law_terms cd_law_terms ct_law_terms,
    F_law_terms := fun_mk l_law_terms c_law_terms k_law_terms,
    g_law_terms := PySem.W.mg_of X G a_law_terms,
    f_law_clean := f_law_clean,
    d_law_clean := PySem.W.fnOf "_law_clean" "_law_clean" (defArgs s_law_clean) (defBody s_law_clean) (defScope s_law_clean) .none kV_law_clean dc_law_clean pm_law_clean an_law_clean cd_law_clean ct_law_clean,
    F_law_clean := fun_mk l_law_clean c_law_clean k_law_clean,
    g_law_clean := PySem.W.mg_of X G a_law_clean,
    f_law := f_law,
    d_law := PySem.W.fnOf "law" "law" (defArgs s_law) (defBody s_law) (defScope s_law) .none kV_law dc_law pm_law an_law cd_law ct_law,
    F_law := fun_mk l_law c_law k_law,
    g_law := PySem.W.mg_of X G a_law,
    g_GREATEST := ⟨_, PySem.W.mg_of X G gv_GREATEST⟩,
    g_DIGITS := ⟨_, PySem.W.mg_of X G gv_DIGITS⟩,
    g_SIGNS := ⟨_, PySem.W.mg_of X G gv_SIGNS⟩,
    g_LONGEST_NAME := ⟨_, PySem.W.mg_of X G gv_LONGEST_NAME⟩,
    g_MOST_DIGITS := ⟨_, PySem.W.mg_of X G gv_MOST_DIGITS⟩,
    o_WORDS := o_WORDS,
    g_WORDS := PySem.W.mg_of X G gv_WORDS,
    q_WORDS := ⟨#[⟨h0_WORDS, .str "r" tk0_WORDS, .str "read" tv0_WORDS⟩, ⟨h1_WORDS, .str "w" tk1_WORDS, .str "write" tv1_WORDS⟩, ⟨h2_WORDS, .str "c" tk2_WORDS, .str "commit" tv2_WORDS⟩, ⟨h3_WORDS, .str "a" tk3_WORDS, .str "abort" tv3_WORDS⟩], ep_WORDS, dl_WORDS, dk_WORDS, ds_WORDS, rfl, _, _, _, _, _, _, _, _, rfl⟩,
    o_WAYS := o_WAYS,
    g_WAYS := PySem.W.mg_of X G gv_WAYS,
    o0_WAYS := o0_WAYS,
    q0_WAYS := fun _ => .inr ⟨_, _, _, tl_0_WAYS, rfl, rfl, (show (1 : Nat) ≤ sizeLine by decide), (.cons ⟨_, rfl⟩ .nil)⟩,
    o1_WAYS := o1_WAYS,
    q1_WAYS := fun _ => .inr ⟨_, _, _, tl_1_WAYS, rfl, rfl, (show (1 : Nat) ≤ sizeLine by decide), (.cons ⟨_, rfl⟩ .nil)⟩,
    o2_WAYS := o2_WAYS,
    q2_WAYS := fun _ => .inr ⟨_, _, _, tl_2_WAYS, rfl, rfl, (show (1 : Nat) ≤ sizeLine by decide), (.cons ⟨_, rfl⟩ .nil)⟩,
    o3_WAYS := o3_WAYS,
    q3_WAYS := fun _ => .inr ⟨_, _, _, tl_3_WAYS, rfl, rfl, (show (1 : Nat) ≤ sizeLine by decide), (.cons ⟨_, rfl⟩ .nil)⟩,
    o4_WAYS := o4_WAYS,
    q4_WAYS := fun _ => .inr ⟨_, _, _, tl_4_WAYS, rfl, rfl, (show (1 : Nat) ≤ sizeLine by decide), (.cons ⟨_, rfl⟩ .nil)⟩,
    o5_WAYS := o5_WAYS,
    q5_WAYS := fun _ => .inr ⟨_, _, _, tl_5_WAYS, rfl, rfl, (show (1 : Nat) ≤ sizeLine by decide), (.cons ⟨_, rfl⟩ .nil)⟩,
    o6_WAYS := o6_WAYS,
    q6_WAYS := fun _ => .inr ⟨_, _, _, tl_6_WAYS, rfl, rfl, (show (1 : Nat) ≤ sizeLine by decide), (.cons ⟨_, rfl⟩ .nil)⟩,
    o7_WAYS := o7_WAYS,
    q7_WAYS := fun _ => .inr ⟨_, _, _, tl_7_WAYS, rfl, rfl, (show (1 : Nat) ≤ sizeLine by decide), (.cons ⟨_, rfl⟩ .nil)⟩,
    o8_WAYS := o8_WAYS,
    q8_WAYS := fun _ => .inr ⟨_, _, _, tl_8_WAYS, rfl, rfl, (show (1 : Nat) ≤ sizeLine by decide), (.cons ⟨_, rfl⟩ .nil)⟩,
    o9_WAYS := o9_WAYS,
    q9_WAYS := fun _ => .inr ⟨_, _, _, tl_9_WAYS, rfl, rfl, (show (2 : Nat) ≤ sizeLine by decide), (.cons ⟨_, rfl⟩ (.cons ⟨_, rfl⟩ .nil))⟩,
    o10_WAYS := o10_WAYS,
    q10_WAYS := fun _ => .inr ⟨_, _, _, tl_10_WAYS, rfl, rfl, (show (1 : Nat) ≤ sizeLine by decide), (.cons ⟨_, rfl⟩ .nil)⟩,
    o11_WAYS := o11_WAYS,
    q11_WAYS := fun _ => .inr ⟨_, _, _, tl_11_WAYS, rfl, rfl, (show (1 : Nat) ≤ sizeLine by decide), (.cons ⟨_, rfl⟩ .nil)⟩,
    o12_WAYS := o12_WAYS,
    q12_WAYS := fun _ => .inr ⟨_, _, _, tl_12_WAYS, rfl, rfl, (show (1 : Nat) ≤ sizeLine by decide), (.cons ⟨_, rfl⟩ .nil)⟩,
    o13_WAYS := o13_WAYS,
    q13_WAYS := fun _ => .inr ⟨_, _, _, tl_13_WAYS, rfl, rfl, (show (2 : Nat) ≤ sizeLine by decide), (.cons ⟨_, rfl⟩ (.cons ⟨_, rfl⟩ .nil))⟩,
    es_WAYS := #[⟨h0_WAYS, .str "read late" tk0_WAYS, .ref o0_WAYS⟩, ⟨h1_WAYS, .str "read under" tk1_WAYS, .ref o1_WAYS⟩, ⟨h2_WAYS, .str "read below" tk2_WAYS, .ref o2_WAYS⟩, ⟨h3_WAYS, .str "read above" tk3_WAYS, .ref o3_WAYS⟩, ⟨h4_WAYS, .str "write late" tk4_WAYS, .ref o4_WAYS⟩, ⟨h5_WAYS, .str "write under" tk5_WAYS, .ref o5_WAYS⟩, ⟨h6_WAYS, .str "write below" tk6_WAYS, .ref o6_WAYS⟩, ⟨h7_WAYS, .str "write above" tk7_WAYS, .ref o7_WAYS⟩, ⟨h8_WAYS, .str "write free passed" tk8_WAYS, .ref o8_WAYS⟩, ⟨h9_WAYS, .str "write own passed" tk9_WAYS, .ref o9_WAYS⟩, ⟨h10_WAYS, .str "write late passed" tk10_WAYS, .ref o10_WAYS⟩, ⟨h11_WAYS, .str "write under passed" tk11_WAYS, .ref o11_WAYS⟩, ⟨h12_WAYS, .str "write below passed" tk12_WAYS, .ref o12_WAYS⟩, ⟨h13_WAYS, .str "write above passed" tk13_WAYS, .ref o13_WAYS⟩],
    ep_WAYS := ep_WAYS,
    kd_WAYS := ⟨dl_WAYS, dk_WAYS, ds_WAYS⟩,
    kv_WAYS := .cons ⟨⟨_, rfl⟩, rfl⟩ (.cons ⟨⟨_, rfl⟩, rfl⟩ (.cons ⟨⟨_, rfl⟩, rfl⟩ (.cons ⟨⟨_, rfl⟩, rfl⟩ (.cons ⟨⟨_, rfl⟩, rfl⟩ (.cons ⟨⟨_, rfl⟩, rfl⟩ (.cons ⟨⟨_, rfl⟩, rfl⟩ (.cons ⟨⟨_, rfl⟩, rfl⟩ (.cons ⟨⟨_, rfl⟩, rfl⟩ (.cons ⟨⟨_, rfl⟩, rfl⟩ (.cons ⟨⟨_, rfl⟩, rfl⟩ (.cons ⟨⟨_, rfl⟩, rfl⟩ (.cons ⟨⟨_, rfl⟩, rfl⟩ (.cons ⟨⟨_, rfl⟩, rfl⟩ (.nil)))))))))))))),
    n0_WAYS := dn0_WAYS,
    n1_WAYS := dn1_WAYS,
    n2_WAYS := dn2_WAYS,
    n3_WAYS := dn3_WAYS,
    n4_WAYS := dn4_WAYS,
    n5_WAYS := dn5_WAYS,
    n6_WAYS := dn6_WAYS,
    n7_WAYS := dn7_WAYS,
    n8_WAYS := dn8_WAYS,
    n9_WAYS := dn9_WAYS,
    n10_WAYS := dn10_WAYS,
    n11_WAYS := dn11_WAYS,
    n12_WAYS := dn12_WAYS,
    n13_WAYS := dn13_WAYS,
    o_FAULTS_BEHIND := o_FAULTS_BEHIND,
    g_FAULTS_BEHIND := PySem.W.mg_of X G gv_FAULTS_BEHIND,
    q_FAULTS_BEHIND := fun _ => .inr ⟨_, _, _, tl_FAULTS_BEHIND, rfl, rfl, (show (5 : Nat) ≤ sizeLine by decide), (.cons ⟨_, rfl⟩ (.cons ⟨_, rfl⟩ (.cons ⟨_, rfl⟩ (.cons ⟨_, rfl⟩ (.cons ⟨_, rfl⟩ .nil)))))⟩,
    o_FAULTS := o_FAULTS,
    g_FAULTS := PySem.W.mg_of X G gv_FAULTS,
    q_FAULTS := fun _ => .inr ⟨_, _, _, tl_FAULTS, rfl, rfl, (show (7 : Nat) ≤ sizeLine by decide), (.cons ⟨_, rfl⟩ (.cons ⟨_, rfl⟩ (.cons ⟨_, rfl⟩ (.cons ⟨_, rfl⟩ (.cons ⟨_, rfl⟩ (.cons ⟨_, rfl⟩ (.cons ⟨_, rfl⟩ .nil)))))))⟩,
    o_ENTRIES := o_ENTRIES,
    g_ENTRIES := PySem.W.mg_of X G gv_ENTRIES,
    q_ENTRIES := fun _ => .inr ⟨_, _, _, tl_ENTRIES, rfl, rfl, (show (14 : Nat) ≤ sizeLine by decide), (.cons ⟨_, rfl⟩ (.cons ⟨_, rfl⟩ (.cons ⟨_, rfl⟩ (.cons ⟨_, rfl⟩ (.cons ⟨_, rfl⟩ (.cons ⟨_, rfl⟩ (.cons ⟨_, rfl⟩ (.cons ⟨_, rfl⟩ (.cons ⟨_, rfl⟩ (.cons ⟨_, rfl⟩ (.cons ⟨_, rfl⟩ (.cons ⟨_, rfl⟩ (.cons ⟨_, rfl⟩ (.cons ⟨_, rfl⟩ .nil))))))))))))))⟩,
    o_ANSWERS := o_ANSWERS,
    g_ANSWERS := PySem.W.mg_of X G gv_ANSWERS,
    o0_ANSWERS := o0_ANSWERS,
    q0_ANSWERS := fun _ => .inr ⟨_, _, _, tl_0_ANSWERS, rfl, rfl, (show (3 : Nat) ≤ sizeLine by decide), (.cons ⟨_, rfl⟩ (.cons ⟨_, rfl⟩ (.cons ⟨_, rfl⟩ .nil)))⟩,
    o1_ANSWERS := o1_ANSWERS,
    q1_ANSWERS := fun _ => .inr ⟨_, _, _, tl_1_ANSWERS, rfl, rfl, (show (5 : Nat) ≤ sizeLine by decide), (.cons ⟨_, rfl⟩ (.cons ⟨_, rfl⟩ (.cons ⟨_, rfl⟩ (.cons ⟨_, rfl⟩ (.cons ⟨_, rfl⟩ .nil)))))⟩,
    o2_ANSWERS := o2_ANSWERS,
    q2_ANSWERS := fun _ => .inr ⟨_, _, _, tl_2_ANSWERS, rfl, rfl, (show (4 : Nat) ≤ sizeLine by decide), (.cons ⟨_, rfl⟩ (.cons ⟨_, rfl⟩ (.cons ⟨_, rfl⟩ (.cons ⟨_, rfl⟩ .nil))))⟩,
    o3_ANSWERS := o3_ANSWERS,
    q3_ANSWERS := fun _ => .inr ⟨_, _, _, tl_3_ANSWERS, rfl, rfl, (show (4 : Nat) ≤ sizeLine by decide), (.cons ⟨_, rfl⟩ (.cons ⟨_, rfl⟩ (.cons ⟨_, rfl⟩ (.cons ⟨_, rfl⟩ .nil))))⟩,
    o4_ANSWERS := o4_ANSWERS,
    q4_ANSWERS := fun _ => .inr ⟨_, _, _, tl_4_ANSWERS, rfl, rfl, (show (2 : Nat) ≤ sizeLine by decide), (.cons ⟨_, rfl⟩ (.cons ⟨_, rfl⟩ .nil))⟩,
    o5_ANSWERS := o5_ANSWERS,
    q5_ANSWERS := fun _ => .inr ⟨_, _, _, tl_5_ANSWERS, rfl, rfl, (show (4 : Nat) ≤ sizeLine by decide), (.cons ⟨_, rfl⟩ (.cons ⟨_, rfl⟩ (.cons ⟨_, rfl⟩ (.cons ⟨_, rfl⟩ .nil))))⟩,
    o6_ANSWERS := o6_ANSWERS,
    q6_ANSWERS := fun _ => .inr ⟨_, _, _, tl_6_ANSWERS, rfl, rfl, (show (4 : Nat) ≤ sizeLine by decide), (.cons ⟨_, rfl⟩ (.cons ⟨_, rfl⟩ (.cons ⟨_, rfl⟩ (.cons ⟨_, rfl⟩ .nil))))⟩,
    o7_ANSWERS := o7_ANSWERS,
    q7_ANSWERS := fun _ => .inr ⟨_, _, _, tl_7_ANSWERS, rfl, rfl, (show (4 : Nat) ≤ sizeLine by decide), (.cons ⟨_, rfl⟩ (.cons ⟨_, rfl⟩ (.cons ⟨_, rfl⟩ (.cons ⟨_, rfl⟩ .nil))))⟩,
    o8_ANSWERS := o8_ANSWERS,
    q8_ANSWERS := fun _ => .inr ⟨_, _, _, tl_8_ANSWERS, rfl, rfl, (show (2 : Nat) ≤ sizeLine by decide), (.cons ⟨_, rfl⟩ (.cons ⟨_, rfl⟩ .nil))⟩,
    o9_ANSWERS := o9_ANSWERS,
    q9_ANSWERS := fun _ => .inr ⟨_, _, _, tl_9_ANSWERS, rfl, rfl, (show (2 : Nat) ≤ sizeLine by decide), (.cons ⟨_, rfl⟩ (.cons ⟨_, rfl⟩ .nil))⟩,
    o10_ANSWERS := o10_ANSWERS,
    q10_ANSWERS := fun _ => .inr ⟨_, _, _, tl_10_ANSWERS, rfl, rfl, (show (2 : Nat) ≤ sizeLine by decide), (.cons ⟨_, rfl⟩ (.cons ⟨_, rfl⟩ .nil))⟩,
    o11_ANSWERS := o11_ANSWERS,
    q11_ANSWERS := fun _ => .inr ⟨_, _, _, tl_11_ANSWERS, rfl, rfl, (show (4 : Nat) ≤ sizeLine by decide), (.cons ⟨_, rfl⟩ (.cons ⟨_, rfl⟩ (.cons ⟨_, rfl⟩ (.cons ⟨_, rfl⟩ .nil))))⟩,
    o12_ANSWERS := o12_ANSWERS,
    q12_ANSWERS := fun _ => .inr ⟨_, _, _, tl_12_ANSWERS, rfl, rfl, (show (4 : Nat) ≤ sizeLine by decide), (.cons ⟨_, rfl⟩ (.cons ⟨_, rfl⟩ (.cons ⟨_, rfl⟩ (.cons ⟨_, rfl⟩ .nil))))⟩,
    o13_ANSWERS := o13_ANSWERS,
    q13_ANSWERS := fun _ => .inr ⟨_, _, _, tl_13_ANSWERS, rfl, rfl, (show (4 : Nat) ≤ sizeLine by decide), (.cons ⟨_, rfl⟩ (.cons ⟨_, rfl⟩ (.cons ⟨_, rfl⟩ (.cons ⟨_, rfl⟩ .nil))))⟩,
    es_ANSWERS := #[⟨h0_ANSWERS, .str "read late" tk0_ANSWERS, .ref o0_ANSWERS⟩, ⟨h1_ANSWERS, .str "read under" tk1_ANSWERS, .ref o1_ANSWERS⟩, ⟨h2_ANSWERS, .str "read below" tk2_ANSWERS, .ref o2_ANSWERS⟩, ⟨h3_ANSWERS, .str "read above" tk3_ANSWERS, .ref o3_ANSWERS⟩, ⟨h4_ANSWERS, .str "write late" tk4_ANSWERS, .ref o4_ANSWERS⟩, ⟨h5_ANSWERS, .str "write under" tk5_ANSWERS, .ref o5_ANSWERS⟩, ⟨h6_ANSWERS, .str "write below" tk6_ANSWERS, .ref o6_ANSWERS⟩, ⟨h7_ANSWERS, .str "write above" tk7_ANSWERS, .ref o7_ANSWERS⟩, ⟨h8_ANSWERS, .str "write free passed" tk8_ANSWERS, .ref o8_ANSWERS⟩, ⟨h9_ANSWERS, .str "write own passed" tk9_ANSWERS, .ref o9_ANSWERS⟩, ⟨h10_ANSWERS, .str "write late passed" tk10_ANSWERS, .ref o10_ANSWERS⟩, ⟨h11_ANSWERS, .str "write under passed" tk11_ANSWERS, .ref o11_ANSWERS⟩, ⟨h12_ANSWERS, .str "write below passed" tk12_ANSWERS, .ref o12_ANSWERS⟩, ⟨h13_ANSWERS, .str "write above passed" tk13_ANSWERS, .ref o13_ANSWERS⟩],
    ep_ANSWERS := ep_ANSWERS,
    kd_ANSWERS := ⟨dl_ANSWERS, dk_ANSWERS, ds_ANSWERS⟩,
    n0_ANSWERS := dn0_ANSWERS,
    n1_ANSWERS := dn1_ANSWERS,
    n2_ANSWERS := dn2_ANSWERS,
    n3_ANSWERS := dn3_ANSWERS,
    n4_ANSWERS := dn4_ANSWERS,
    n5_ANSWERS := dn5_ANSWERS,
    n6_ANSWERS := dn6_ANSWERS,
    n7_ANSWERS := dn7_ANSWERS,
    n8_ANSWERS := dn8_ANSWERS,
    n9_ANSWERS := dn9_ANSWERS,
    n10_ANSWERS := dn10_ANSWERS,
    n11_ANSWERS := dn11_ANSWERS,
    n12_ANSWERS := dn12_ANSWERS,
    n13_ANSWERS := dn13_ANSWERS,
    g_MOST_KEPT := ⟨_, PySem.W.mg_of X G gv_MOST_KEPT⟩,
    n_all := PySem.W.mg_none_of X G n_all,
    n_bool := PySem.W.mg_none_of X G n_bool,
    n_dict := PySem.W.mg_none_of X G n_dict,
    n_enumerate := PySem.W.mg_none_of X G n_enumerate,
    n_int := PySem.W.mg_none_of X G n_int,
    n_isinstance := PySem.W.mg_none_of X G n_isinstance,
    n_len := PySem.W.mg_none_of X G n_len,
    n_range := PySem.W.mg_none_of X G n_range,
    n_sorted := PySem.W.mg_none_of X G n_sorted,
    n_str := PySem.W.mg_none_of X G n_str,
    n_super := PySem.W.mg_none_of X G n_super,
    n_tuple := PySem.W.mg_none_of X G n_tuple,
    n_zip := PySem.W.mg_none_of X G n_zip
  }, ?_⟩
  exact (Value.ref.inj (Option.some.inj (hfa.symm.trans (PySem.W.mg_of X G a_law)))).symm
end K27
namespace K27
open PySem L2
abbrev PP : Program := PySem.Challenge.rw_stamprules_k27_whole_closed_table.prog
end K27

/-! Rules of our own over the hand layer: a comparison by an own method, isinstance of a caught error that has fields, an instance made within a try. -/
namespace CM
open PySem PySem.Spec PyProof.Rows L2
section
variable {X : Cx} {CX : CXT} {pins : List (Addr × Obj)} {σ : L2.St} {H : Hp} {s : Shared} {a C g : Addr} {n : Nat} {sp : Sp} {E : XK}
/-- x op y, both instances of the class at C, whose own def for op is at g -/
def rOwnI (C : Addr) (sp : Sp) (E : XK) : R2 := fun x y H Q => ∃ a dx fs b dy gs, x = .ref a ∧ y = .ref b ∧ H a = some (.ins C dx fs) ∧ H b = some (.ins C dy gs) ∧ sp [x, y] H Q E
theorem op_ownI {op : CmpOp} (hop : ∀ a b, compareOp op a b = richCompare op a b) (hs : PySem.W.findIn X.K (.ref C) (cmpInfo op).2.1 = some (some (.ref g))) (hf : PySem.W.isFn X.K (.ref g) = true) (F : FnR X.prog X.w X.K X.mg X.base CX n g sp)
    (hr : Room n X.A) (hx : Passes CX X E) : OpR X (compareOp op) (rOwnI C sp E) := by
  intro pins s σ H x y v u Q I rx ry h
  obtain ⟨a, dx, fs, b, dy, gs, rfl, rfl, ha, hb, q⟩ := h
  cases (show v = Value.ref a from rx)
  cases (show u = Value.ref b from ry)
  obtain ⟨mA, O, _⟩ := ins_get I.hok ha
  obtain ⟨od, J, _⟩ := O.look
  obtain ⟨mB, O', _⟩ := ins_get I.hok hb
  obtain ⟨od', J', _⟩ := O'.look
  obtain ⟨m, hF⟩ := I.fr
  rw [hop]
  refine PySem.W.cmp_K (op := op) (tb := .ref C) hr.units0 hF I.ok.mod.kin J J'.type (by simp [PySem.W.notFirst]) hs hf ?_
  refine wpAny_mono (wpAny_call (run_fnR (us := [.ref a, .ref b]) (vs := [.ref a, .ref b]) F hr hx I (.cons rfl (.cons rfl .nil)) q)) (fun w s' z => ?_) fun _ _ x => x
  obtain ⟨z', H', I', rz, qz⟩ := z
  exact SlX.cmpback rz ⟨z', H', I', rz, qz⟩
end
/-- isinstance(e, c), e the exception that the suite holds (its class cls, its dict d), with fields of its own -/
def rIsD (K : PySem.W.Frag) (D a : Addr) (cls : Value) (d : Option Addr) : List V → Hp → VK → Prop := fun xs H Q => ∃ (c : V) (cv : Value) (b : Bool) (dd : Addr) (fs : List (Str × V)), xs = [.ref a, c] ∧ cls = .ref D ∧ d = some dd ∧ ClsV c cv ∧ PySem.W.kitOne K (.ref D) cv = some b ∧ H dd = some (.xd fs) ∧ Q (.bl b) H
theorem call_isD {X : Cx} {a D : Addr} {cls : Value} {d : Option Addr} {oe : Obj} {pn : List (Addr × Obj)} (C : ExcC X.K D) (hz : Zc cls d oe) (hf : ∃ vs, oe.data = .fields vs) : CallR (X.suite a ((a, oe) :: pn)) (.builtin "isinstance") (rIsD X.K D a cls d) := by
  intro pins s σ H xs us Q I r h
  obtain ⟨c, cv, b, dd, fs, rfl, rfl, rfl, hcv, e, ea, q⟩ := h
  cases r with
  | cons rx rr =>
    cases rr with
    | cons rt rr =>
      cases rr
      cases rx
      have ec := hcv.eq rt
      subst ec
      obtain ⟨hget, _⟩ := I.pin (a, oe) (List.mem_append.mpr (.inl List.mem_cons_self))
      obtain ⟨vs, hv⟩ := hf
      have hx : ObjOk X.prog X.w H s.heap dd (.xd fs) := I.hok dd _ ea
      obtain ⟨mA, hns, hr⟩ := hx
      obtain ⟨od, ho, hl⟩ := lookIn_ns hns
      have J : PySem.W.InstAt s.heap a oe D (some od) := ⟨hget, hz.1, by unfold PySem.W.notCls; rw [hv] <;> rfl, by rw [hz.2]; exact ho⟩
      have hcl : (PySem.W.clsIn X.K D).isSome = true := by
        obtain ⟨cd, hc, _⟩ := PySem.W.any_some C.hd
        rw [hc]
        rfl
      exact PySem.W.kia_one (PySem.W.kitx_exc hcl C.hg C.hk C.hs C.ha C.hn C.ht C.hm) I.kIn J e (fun z => by cases hcv <;> cases z) fun tk => ⟨.bl b, H, I.kept (t' := tk) fun _ _ z => z, rfl, q⟩
/-- an object that stands, behind a new one -/
theorem kp {H : Hp} {p q : Addr} {o o' : HO} (n : H p = none) (h : H q = some o) : upd H p o' q = some o := by
  rw [upd_ne (ne_of_none h n)]
  exact h
theorem same_new {H H' : Hp} {p : Addr} {o : HO} (s : Same H H') (n : H' p = none) : Same H (upd H' p o) := fun b o' h => kp n (s b o' h)
section
variable {X : Cx} {CX : CXT} {k : Nat} {f C : Addr} {fd : FuncData} {ps : List Str} {sp : Sp} {E : L2.St → XK} {x : Str} {p pos : Pos} {e : Expr} {es : List Expr} {t : TA} {ds : List Value} {dvs : List V}
/-- C(e, ..) whose __init__ may raise, within a try -/
def tMakeS (C : Addr) (sp : Sp) (dvs : List V) (E : L2.St → XK) (t : TA) : TE := fun σ H Q => t σ H fun vs H1 => ∀ x dx, H1 x = none → H1 dx = none → dx ≠ x →
  sp (.ref x :: (vs ++ dvs)) (upd (upd H1 dx (.own x)) x (.ins C dx [])) (fun v H2 => v = .non ∧ Q (.ref x) H2) (E σ)
theorem pe_makeS (M : Mk X.K C f) (F : FnOk X.prog X.w X.K X.mg X.base CX k f fd ps sp) (hr : Room (k + 1) X.A) (hg : Gl X x) (hm : X.mg x = some (.ref C)) (hb : Binds X.K fd ps ds) (hd : Vals dvs ds) (hx : ∀ σ, PassesAt CX X σ (E σ))
    (ha : PA X (e :: es) t) (hdb : (x == ("__debug__" : Str)) = false := by decide) (he : starEach (e :: es) X.env = (false, eval e X.env) :: starEach es X.env := by rfl) (hpl : (backTo pos (starEach es X.env)).any (·.1) = false := by rfl) :
    PE X (.Call (.Name x p) (e :: es) [] pos) (tMakeS C sp dvs E t) := by
  refine ⟨fun pins s σ H Q I h => ?_⟩
  refine wpAny_Call_Name_kw (ld_glob I hg hm ?_ hdb)
  refine PySem.W.callWith_K (h₀ := X.base) I.ok.mod.kin M.kp (thn (ha.run pos pins s σ H _ I h) fun us s1 ⟨vs, H1, I1, r, q⟩ => ⟨I1.kIn, ?_⟩) he hpl
  have hq := q (s1.heap.objs.size + 1) s1.heap.objs.size (I1.hok.fresh (Nat.le_succ _)) (I1.hok.fresh (Nat.le_refl _)) (Nat.ne_of_lt (Nat.lt_succ_self _))
  have I2 := Inv.made (C := C) I1
  have r2 : Vals (V.ref (s1.heap.objs.size + 1) :: (vs ++ dvs)) (Value.ref (s1.heap.objs.size + 1) :: (us ++ ds)) := .cons rfl (r.append hd)
  have hl : (Value.ref (s1.heap.objs.size + 1) :: us ++ ds).length = ps.length := by
    have e := r2.length
    rw [F.len _ _ _ _ hq] at e
    exact e.symm
  refine wpAny_call (make_map (f := f) I1.kIn M.makes M.init (beq_iff_eq.mp M.fn) (codeAny_mono (F.run _ X.stack _ _ ⟨Value.ref (s1.heap.objs.size + 1) :: us, []⟩ (Value.ref (s1.heap.objs.size + 1) :: (us ++ ds)) _ _ (E σ) (hr.make C us [])
    (I2.env0.make C us []) (hb _ (Value.ref (s1.heap.objs.size + 1) :: us) I2.kIn hl) r2 hq) fun r s' hq' => ?_))
  cases r with
  | error e => exact hx σ pins _ _ e s' I2 hq'
  | ok fl =>
    cases fl with
    | ret u =>
      obtain ⟨v, H', I3, rv, ev, q3⟩ := I2.after hq'
      subst ev
      exact ⟨rv, ⟨V.ref (s1.heap.objs.size + 1), H', I3, rfl, q3⟩⟩
    | next => exact False.elim hq'
    | brk => exact False.elim hq'
    | cont => exact False.elim hq'
end
end CM

/-! Short texts: the mathematics, without any Python. -/
namespace TX
open PySem L2 TL
inductive Kd where
  | rd | wr | cm | ab
def Kd.sg : Kd → Nat
  | .rd => 114 | .wr => 119 | .cm => 99 | .ab => 97
def Kd.nm : Kd → Str
  | .rd => "read" | .wr => "write" | .cm => "commit" | .ab => "abort"
def Kd.has : Kd → Bool
  | .rd => true | .wr => true | .cm => false | .ab => false
theorem Kd.sg_nm (k : Kd) : (tl k.nm)[0]? = some k.sg := by cases k <;> decide +kernel
theorem Kd.nm_len (k : Kd) : k.nm.length ≤ 6 ∧ 0 < k.nm.length := by cases k <;> decide +kernel
def topN : Nat := 1000000000000000000000000000000
/-- the signs of a word -/
def wordL (k : Kd) (n : Nat) : List Nat := k.sg :: numL n
def word (p : Kd × Nat) : Str := ⟨(wordL p.1 p.2).toArray⟩
theorem tl_word (p : Kd × Nat) : tl (word p) = wordL p.1 p.2 := rfl
/-- a stamp's numeral -/
def numOk (d : List Nat) : Bool := decide (1 ≤ d.length) && decide (d.length ≤ 31) && !decide (d.head? = some 48) && d.all (fun c => decide (48 ≤ c) && decide (c ≤ 57)) && decide (NumText.digitsVal d ≤ topN)
def sgOk (c : Nat) : Bool := decide (c = 114) || decide (c = 119) || decide (c = 99) || decide (c = 97)
def wordOk : List Nat → Bool
  | c :: d => sgOk c && numOk d
  | [] => false
theorem numL_head {n : Nat} (h : 1 ≤ n) : (numL n).head? ≠ some 48 := by
  induction n using Nat.strongRecOn with
  | _ n ih =>
    by_cases h10 : n < 10
    · rw [numL_lt h10]
      intro e
      have e' : 48 + n = 48 := by simpa using e
      omega
    · rw [numL_step (by omega)]
      have r := ih (n / 10) (by omega) (by omega)
      have ne := numL_ne (n / 10)
      cases hq : numL (n / 10) with
      | nil => exact absurd hq ne
      | cons c r' =>
        rw [hq] at r
        exact r
theorem numL_all (n : Nat) : (numL n).all (fun c => decide (48 ≤ c) && decide (c ≤ 57)) = true := by
  rw [List.all_eq_true]
  intro c hc
  have r := numL_digits n c hc
  simp only [Bool.and_eq_true, decide_eq_true_eq]
  omega
theorem numL_len31 {n : Nat} (h : n ≤ topN) : (numL n).length ≤ 31 := numL_len (by decide) (Nat.lt_of_le_of_lt h (by decide))
theorem numOk_num {n : Nat} (h1 : 1 ≤ n) (h2 : n ≤ topN) : numOk (numL n) = true := by
  unfold numOk
  have a1 : 1 ≤ (numL n).length := by
    cases hq : numL n with
    | nil => exact absurd hq (numL_ne n)
    | cons c r => simp
  rw [decide_eq_true a1, decide_eq_true (numL_len31 h2), decide_eq_false (numL_head h1), numL_all, numL_val, decide_eq_true h2]
  rfl
theorem numOk_big {n : Nat} (h : topN < n) : numOk (numL n) = false := by
  unfold numOk
  rw [numL_val, decide_eq_false (show ¬ n ≤ topN by omega), Bool.and_false]
theorem sgOk_sg (k : Kd) : sgOk k.sg = true := by cases k <;> rfl
theorem wordOk_word {k : Kd} {n : Nat} (h1 : 1 ≤ n) (h2 : n ≤ topN) : wordOk (wordL k n) = true := by
  show (sgOk k.sg && numOk (numL n)) = true
  rw [sgOk_sg, numOk_num h1 h2]
  rfl
theorem word_len {k : Kd} {n : Nat} (h2 : n ≤ topN) : (wordL k n).length ≤ 32 := by
  show (numL n).length + 1 ≤ 32
  have := numL_len31 h2
  omega
theorem word_free {k : Kd} {n : Nat} : (32 : Nat) ∉ wordL k n := by
  intro h
  rcases List.mem_cons.mp h with h | h
  · cases k <;> cases h
  · exact numL_free (.inl (by decide)) h
/-! ### texts of words -/
abbrev sp : Str := " "
theorem tl_sp : tl sp = [32] := by decide +kernel
/-- the first piece of a word (a word with a blank in it is two) -/
def Heads (w b : List Nat) : Prop := (32 ∉ w ∧ b = w) ∨ ∃ x, w = b ++ 32 :: x ∧ 32 ∉ b
theorem spl_heads {w b : List Nat} (h : Heads w b) (post : List (List Nat)) : ∃ rest, spl [32] 0 [] (joinL [32] (w :: post)) = b :: rest := by
  rcases h with ⟨h, rfl⟩ | ⟨x, rfl, h⟩
  · cases post with
    | nil => exact ⟨[], by show spl [32] 0 [] b = _; rw [spl_last1 h]; rfl⟩
    | cons q r => exact ⟨_, spl_part1 (acc := []) (rest := joinL [32] (q :: r)) h⟩
  · cases post with
    | nil =>
      refine ⟨spl [32] 0 [] x, ?_⟩
      exact spl_part1 (acc := []) (rest := x) h
    | cons q r =>
      refine ⟨spl [32] 0 [] (x ++ ([32] ++ joinL [32] (q :: r))), ?_⟩
      have e : joinL [32] ((b ++ 32 :: x) :: q :: r) = b ++ ([32] ++ (x ++ ([32] ++ joinL [32] (q :: r)))) := by
        show (b ++ 32 :: x) ++ ([32] ++ joinL [32] (q :: r)) = _
        simp
      rw [e]
      exact spl_part1 (acc := []) h
theorem spl_pre {w b : List Nat} (h : Heads w b) (post : List (List Nat)) : ∀ {pre : List (List Nat)}, (∀ p ∈ pre, 32 ∉ p) → ∃ rest, spl [32] 0 [] (joinL [32] (pre ++ w :: post)) = pre ++ b :: rest
  | [], _ => spl_heads h post
  | p :: r, hp => by
    obtain ⟨rest, e⟩ := spl_pre h post (pre := r) fun z hz => hp z (List.mem_cons_of_mem _ hz)
    refine ⟨rest, ?_⟩
    have e2 : joinL [32] ((p :: r) ++ w :: post) = p ++ ([32] ++ joinL [32] (r ++ w :: post)) := by
      cases r with
      | nil => rfl
      | cons _ _ => rfl
    rw [e2]
    have z := spl_part1 (s := 32) (S := []) (acc := []) (rest := joinL [32] (r ++ w :: post)) (hp p (List.mem_cons_self ..))
    show spl [32] 0 [] (p ++ ([32] ++ joinL [32] (r ++ w :: post))) = p :: (r ++ b :: rest)
    rw [← e]
    exact z
theorem sp_ok : sp.cps.all (· < 256) = true := by decide +kernel
theorem split_tl (x : Str) : (Txt.split x sp).map tl = spl [32] 0 [] (tl x) := by
  rw [split_spl x sp (by rw [tl_sp]; simp) (kind_ok sp_ok), tl_sp]
theorem tl_joinS (ws : List Str) : tl (Txt.join sp ws) = joinL [32] (ws.map tl) := by rw [join_eq, tl_join, tl_sp]
theorem free_words {L : List (Kd × Nat)} : ∀ p ∈ (L.map word).map tl, (32 : Nat) ∉ p := by
  intro p hp
  obtain ⟨w, hw, rfl⟩ := List.mem_map.mp hp
  obtain ⟨q, _, rfl⟩ := List.mem_map.mp hw
  exact word_free
/-- a text of good words, split -/
theorem split_good {L : List (Kd × Nat)} (h : L ≠ []) : Txt.split (Txt.join sp (L.map word)) sp = L.map word :=
  split_join (s := 32) (S := []) tl_sp sp_ok (fun e => h (List.map_eq_nil_iff.mp e)) fun p hp => by
    obtain ⟨q, _, rfl⟩ := List.mem_map.mp hp
    exact word_free
/-- a text with a bad word behind good ones, split -/
theorem split_bad {L : List (Kd × Nat)} {w b : Str} (h : Heads (tl w) (tl b)) (post : List Str) : ∃ rest, Txt.split (Txt.join sp (L.map word ++ w :: post)) sp = L.map word ++ b :: rest := by
  obtain ⟨rest, e⟩ := spl_pre h (post.map tl) (free_words (L := L))
  refine ⟨rest.map fun l => ⟨l.toArray⟩, map_tl_inj ?_⟩
  rw [split_tl, tl_joinS, List.map_append, List.map_cons, e, List.map_append, List.map_cons, List.map_map]
  congr 2
  have : (tl ∘ fun l : List Nat => (⟨l.toArray⟩ : Str)) = id := by
    funext l
    rfl
  rw [List.map_map, this, List.map_id]
theorem joinL_len {c : Nat} : ∀ {ps : List (List Nat)}, (∀ p ∈ ps, p.length ≤ c) → (joinL [32] ps).length ≤ ps.length * (c + 1)
  | [], _ => Nat.zero_le _
  | [p], h => by
    have := h p (List.mem_singleton.mpr rfl)
    show p.length ≤ 1 * (c + 1)
    omega
  | p :: q :: r, h => by
    have h1 := h p (List.mem_cons_self ..)
    have h2 := joinL_len (ps := q :: r) fun z hz => h z (List.mem_cons_of_mem _ hz)
    show (p ++ ([32] ++ joinL [32] (q :: r))).length ≤ (r.length + 1 + 1) * (c + 1)
    rw [List.length_append, List.length_append]
    have e : (r.length + 1 + 1) * (c + 1) = (r.length + 1) * (c + 1) + (c + 1) := by rw [Nat.add_mul, Nat.one_mul]
    have h3 : ((q :: r).length) * (c + 1) = (r.length + 1) * (c + 1) := rfl
    rw [h3] at h2
    have h4 : ([32] : List Nat).length = 1 := rfl
    omega
theorem join_len {c : Nat} {ws : List Str} (h : ∀ w ∈ ws, w.length ≤ c) : (Txt.join sp ws).length ≤ ws.length * (c + 1) := by
  rw [len_tl, tl_joinS]
  have := joinL_len (c := c) (ps := ws.map tl) fun p hp => by
    obtain ⟨w, hw, rfl⟩ := List.mem_map.mp hp
    rw [← len_tl]
    exact h w hw
  rw [List.length_map] at this
  exact this
theorem sum_len {c : Nat} : ∀ {ws : List Str}, (∀ w ∈ ws, w.length ≤ c) → (ws.map (·.length)).sum ≤ ws.length * c
  | [], _ => Nat.zero_le _
  | w :: r, h => by
    have h1 := h w (List.mem_cons_self ..)
    have h2 := sum_len (ws := r) fun z hz => h z (List.mem_cons_of_mem _ hz)
    show w.length + (r.map (·.length)).sum ≤ (r.length + 1) * c
    rw [Nat.add_mul, Nat.one_mul]
    omega
/-- what is no word, and what is read of it -/
def BadW (w : Str) : Prop := w.length ≤ 100 ∧ ∃ b : Str, Heads (tl w) (tl b) ∧ wordOk (tl b) = false ∧ b.length ≤ 100
theorem badW_free {w : Str} (h : ¬ (32 : Nat) ∈ tl w) (o : wordOk (tl w) = false) (l : w.length ≤ 100) : BadW w := ⟨l, w, .inl ⟨h, rfl⟩, o, l⟩
def bads : List Str := ["w", "7", "W2", "x2", "w02", "r0", "c-1", "a+1", "w2x", "2w", "ww2", "r1_0", "c1.0", "w1\n"]
theorem bads_bad : ∀ w ∈ bads, BadW w := by
  intro w hw
  simp only [bads, List.mem_cons, List.not_mem_nil, or_false] at hw
  rcases hw with rfl | rfl | rfl | rfl | rfl | rfl | rfl | rfl | rfl | rfl | rfl | rfl | rfl | rfl
  all_goals exact badW_free (by decide +kernel) (by decide +kernel) (by decide +kernel)
theorem bad_write : BadW "write" := badW_free (by decide +kernel) (by decide +kernel) (by decide +kernel)
theorem bad_empty : BadW "" := badW_free (by decide +kernel) (by decide +kernel) (by decide +kernel)
theorem bad_a00 : BadW "a00" := badW_free (by decide +kernel) (by decide +kernel) (by decide +kernel)
theorem bad_w2 : BadW "w 2" := ⟨by decide +kernel, "w", .inr ⟨[50], by decide +kernel, by decide +kernel⟩, by decide +kernel, by decide +kernel⟩
theorem bad_big {n : Nat} (h : topN < n) (h2 : n < 10 ^ 45) : BadW (⟨(114 :: numL n).toArray⟩ : Str) := by
  have hl : (numL n).length ≤ 45 := numL_len (by decide) h2
  have l : (⟨(114 :: numL n).toArray⟩ : Str).length ≤ 100 := by
    rw [len_tl]
    show (numL n).length + 1 ≤ 100
    omega
  refine badW_free ?_ ?_ l
  · intro z
    rcases List.mem_cons.mp z with z | z
    · cases z
    · exact numL_free (.inl (by decide)) z
  · show (sgOk 114 && numOk (numL n)) = false
    rw [numOk_big h, Bool.and_false]
end TX

/-! A written dict from texts to texts: d[k], k not in d. -/
namespace CM
open PySem PySem.Spec PyProof.Rows L2
/-- the heap behind an error that was made with one field -/
theorem raise_heap {H : Hp} {a d : Addr} {o1 x o2 y : HO} (ha : H a = none) : upd (del (upd (upd (upd H a o1) d x) a o2) a) d y = upd H d y := by
  funext b
  by_cases hbd : b = d
  · rw [hbd, upd_same, upd_same]
  · rw [upd_ne hbd, upd_ne hbd]
    by_cases hba : b = a
    · rw [hba, del_same, ha]
    · rw [del_ne hba, upd_ne hba, upd_ne hbd, upd_ne hba]
theorem cut_head {z : Str} : TL.tl (cutS z none (some 1)) = (TL.tl z).take 1 := by
  show (z.cps.toList.drop (HT.sIx z.length 0 none)).take (HT.sIx z.length z.length (some ((1 : Nat) : Int)) - HT.sIx z.length 0 none) = _
  rw [HT.sIx_none, HT.sIx_nat, List.drop_zero, Nat.sub_zero]
  have e : z.length = z.cps.toList.length := TL.len_tl z
  rw [e]
  show _ = z.cps.toList.take 1
  generalize z.cps.toList = l
  cases l with
  | nil => rfl
  | cons c d =>
    have : min 1 (c :: d).length = 1 := by simp
    rw [this]
theorem cut_tail {z : Str} : TL.tl (cutS z (some 1) none) = (TL.tl z).drop 1 := by
  show (z.cps.toList.drop (HT.sIx z.length 0 (some ((1 : Nat) : Int)))).take (HT.sIx z.length z.length none - HT.sIx z.length 0 (some ((1 : Nat) : Int))) = _
  rw [HT.sIx_none, HT.sIx_nat]
  have e : z.length = z.cps.toList.length := TL.len_tl z
  rw [e]
  show _ = z.cps.toList.drop 1
  generalize z.cps.toList = l
  cases l with
  | nil => rfl
  | cons c d =>
    have : min 1 (c :: d).length = 1 := by simp
    rw [this]
    have l : ((c :: d).drop 1).length = (c :: d).length - 1 := List.length_drop
    rw [List.take_of_length_le (by omega)]
/-- at p the written dict of the pairs kvs -/
def WDct (K : PySem.W.Frag) (w : World) (p : Addr) (kvs : List (Str × Str)) : Prop :=
  ∃ es n, K.lookup p = some ⟨.type "dict", none, .dict es n, #[]⟩ ∧ PySem.W.KeysLit w.params es.toList ∧ (p == sysModules) = false ∧ Paired (fun (e : DictEntry) (q : Str × Str) => (∃ t, e.key = .str q.1 t) ∧ ∃ t, e.val = .str q.2 t) es.toList kvs
theorem wd_find : ∀ {es : List DictEntry} {kvs : List (Str × Str)}, Paired (fun (e : DictEntry) (q : Str × Str) => (∃ t, e.key = .str q.1 t) ∧ ∃ t, e.val = .str q.2 t) es kvs → ∀ z : Str,
    match kvs.lookup z with
    | some y => ∃ t, (es.find? fun e => PySem.Value.isStrOf z e.key).map (·.val) = some (.str y t)
    | none => (es.find? fun e => PySem.Value.isStrOf z e.key).map (·.val) = none
  | _, _, .nil, _ => rfl
  | e :: es, (a, b) :: kvs, .cons ⟨⟨t, hk⟩, u, hv⟩ r, z => by
    have ih := wd_find r z
    have ek : PySem.Value.isStrOf z e.key = (a == z) := by rw [hk] <;> rfl
    by_cases h : z = a
    · subst h
      have l : ((z, b) :: kvs).lookup z = some b := by simp [List.lookup]
      rw [l]
      refine ⟨u, ?_⟩
      rw [List.find?_cons, ek]
      simp [hv]
    · have l : ((a, b) :: kvs).lookup z = kvs.lookup z := by
        have : (z == a) = false := by simpa using h
        simp [List.lookup, this]
      have n : (a == z) = false := by
        have : ¬ a = z := fun q => h q.symm
        simpa using this
      rw [l, List.find?_cons, ek, n]
      exact ih
theorem wd_findBy {es : Array DictEntry} {kvs : List (Str × Str)} (r : Paired (fun (e : DictEntry) (q : Str × Str) => (∃ t, e.key = .str q.1 t) ∧ ∃ t, e.val = .str q.2 t) es.toList kvs) (z : Str) :
    findBy PySem.Value.isStrOf es z = (es.toList.find? fun e => PySem.Value.isStrOf z e.key).map (·.val) := by
  obtain ⟨l⟩ := es
  simp [findBy]
def rNotInW (K : PySem.W.Frag) (w : World) : R2 := fun x y H Q => ∃ z p kvs, x = .str z ∧ y = .ref p ∧ WDct K w p kvs ∧ Q (.bl (!(kvs.lookup z).isSome)) H
def rIxW (K : PySem.W.Frag) (w : World) : R2 := fun x y H Q => ∃ z p kvs v, x = .ref p ∧ y = .str z ∧ WDct K w p kvs ∧ kvs.lookup z = some v ∧ Q (.str v) H
section
variable {X : Cx}
theorem op_notinW : OpR X (compareOp .NotIn) (rNotInW X.K X.w) := by
  intro pins s σ H x y v u Q I rx ry h
  obtain ⟨z, p, kvs, rfl, rfl, ⟨es, n, hl, hk, low, pr⟩, q⟩ := h
  obtain ⟨t, rfl⟩ := (show ∃ t, v = Value.str z t from rx)
  obtain rfl : u = Value.ref p := ry
  have hm := PySem.W.mapOf_K (prog := X.prog) (w := X.w) I.kIn hl hk
  refine wpAny_notIn_of (strKind_is X.prog X.w z t) low hm ?_
  have e : (findBy PySem.Value.isStrOf es z).isSome = (kvs.lookup z).isSome := by
    have f := wd_find pr z
    rw [wd_findBy pr z]
    cases hq : kvs.lookup z with
    | none =>
      rw [hq] at f
      rw [f] <;> rfl
    | some y =>
      rw [hq] at f
      obtain ⟨t', f⟩ := f
      rw [f] <;> rfl
  have e' : (findBy Value.isStrOf es z).isSome = (kvs.lookup z).isSome := e
  rw [e']
  exact ⟨.bl (!(kvs.lookup z).isSome), H, I.tok _, rfl, q⟩
theorem ix_W : IxR X (rIxW X.K X.w) := by
  intro value slice pins s σ H x y v u Q I rx ry h hs
  obtain ⟨z, p, kvs, r, rfl, rfl, ⟨es, n, hl, hk, low, pr⟩, lk, q⟩ := h
  obtain rfl : v = Value.ref p := rx
  obtain ⟨t, rfl⟩ := ry
  have hm := PySem.W.mapOf_K (prog := X.prog) (w := X.w) I.kIn hl hk
  have f := wd_find pr z
  rw [lk] at f
  obtain ⟨t', f⟩ := f
  rw [← wd_findBy pr z] at f
  exact tail_any hm.typeIs slot_dict_getitem.lookup (wpAny_getItem_of (strKind_is X.prog X.w z t) hm f ⟨.str r, H, I.tok _, ⟨_, rfl⟩, q⟩) hs
end
end CM

/-! Own operators of a plain class, below the layer: o[i], o[i] = v, x in o, o &= p, iter(o). -/
namespace OWN
open PySem PySem.Spec PyProof.Rows
section
variable {prog : Program} {w : World} {M : Model} {A : Around} {E : Value → Shared → Prop} {s : Shared} {K : PySem.W.Frag} {x C g : Addr} {ox : Obj} {od : Option Obj}
theorem spec {self : Value} {name : PySem.Str} {args : List Value} {Q : Option Value → Shared → Prop} (sp : PySem.W.Looks M s.heap (specialOf self name) (some (.ref g))) (hb : PySem.W.Looks M s.heap (bindSpecial (.ref g) self) (.ref g, [self]))
    (hc : wpAny M A (call (.ref g) (self :: args)) (fun v => Q (some v)) E s) : wpAny M A (callSpecial? self name args) Q E s := by
  simp only [callSpecial?]
  refine wpAny_bind (sp.here ?_)
  refine wpAny_holding (wpAny_bind (hb.here ?_))
  exact wpAny_bind (wpAny_mono hc (fun v s' h' => wpAny_pure h') fun _ _ h' => h')
theorem special {name : PySem.Str} {h : Heap} (X : K.In h) (J : PySem.W.InstAt h x ox C od) (hs : PySem.W.findIn K (.ref C) name = some (some (.ref g))) : PySem.W.Looks M h (specialOf (.ref x) name) (some (.ref g)) :=
  J.type.andThen (PySem.W.looks_findIn X hs)
theorem seqkey {h : Heap} {k : Value} {nm : PySem.Str} (X : K.In h) (J : PySem.W.InstAt h x ox C od) (nd : PySem.W.mroIn K C (.type "collections.deque") = some false) : PySem.W.Looks M h (sequenceKey (.ref x) k nm) k := by
  have dq : PySem.W.Looks M h (seqItemTypes.anyM fun n => isSubtype (.ref C) (.type n)) false := by
    show PySem.W.Looks M h (isSubtype (.ref C) (.type "collections.deque") >>= fun b => _) false
    exact (PySem.W.looks_mroIn X nd).andThen .now
  intro A Q E s kp q
  unfold sequenceKey
  refine wpAny_bind (J.type A _ E s kp ?_)
  dsimp only
  refine wpAny_bind (dq A _ E s kp ?_)
  exact wpAny_pure q
theorem getItem_own {i : Value} {Q : Value → Shared → Prop} (X : K.In s.heap) (J : PySem.W.InstAt s.heap x ox C od) (hs : PySem.W.findIn K (.ref C) "__getitem__" = some (some (.ref g))) (hf : PySem.W.isFn K (.ref g) = true)
    (nd : PySem.W.mroIn K C (.type "collections.deque") = some false) (h : wpAny (model prog w) A (call (.ref g) [.ref x, i]) Q E s) : wpAny (model prog w) A (getItem (.ref x) i) Q E s := by
  unfold getItem
  refine wpAny_holding ?_
  refine wpAny_bind ((seqkey (M := model prog w) (k := i) X J nd).here ?_)
  refine wpAny_bind (spec (special X J hs) (PySem.W.bind_fn X _ (beq_iff_eq.mp hf)) (wpAny_mono h (fun v s' z => wpAny_pure z) fun _ _ z => z))
theorem setItem_own {i v : Value} {Q : Unit → Shared → Prop} (X : K.In s.heap) (J : PySem.W.InstAt s.heap x ox C od) (hs : PySem.W.findIn K (.ref C) "__setitem__" = some (some (.ref g))) (hf : PySem.W.isFn K (.ref g) = true)
    (nd : PySem.W.mroIn K C (.type "collections.deque") = some false) (h : wpAny (model prog w) A (call (.ref g) [.ref x, i, v]) (fun _ s' => Q () s') E s) : wpAny (model prog w) A (setItem (.ref x) i v) Q E s := by
  unfold setItem
  refine wpAny_holding ?_
  refine wpAny_bind ((seqkey (M := model prog w) (k := i) X J nd).here ?_)
  refine wpAny_bind (spec (special X J hs) (PySem.W.bind_fn X _ (beq_iff_eq.mp hf)) (wpAny_mono h (fun v s' z => wpAny_pure z) fun _ _ z => z))
theorem contains_own {i : Value} {Q : Bool → Shared → Prop} (X : K.In s.heap) (J : PySem.W.InstAt s.heap x ox C od) (hs : PySem.W.findIn K (.ref C) "__contains__" = some (some (.ref g))) (hf : PySem.W.isFn K (.ref g) = true)
    (h : wpAny (model prog w) A (call (.ref g) [.ref x, i]) (fun v s' => ∃ b, v = .bool b ∧ Q b s') E s) : wpAny (model prog w) A (contains (.ref x) i) Q E s := by
  unfold contains
  refine wpAny_holding ?_
  simp only [stdlibNamesSay?]
  refine wpAny_bind ((special X J hs).here ?_)
  have ne : ((some (Value.ref g)) == some Value.none) = false := rfl
  rw [ne]
  simp only [Bool.false_eq_true, if_false]
  have main : ∀ t : Sem Value, wpAny (model prog w) A (callSpecialUnlessNone? (.ref x) (Str.ofString "__contains__") [i] t) (fun r s' => ∃ b, r = some (.bool b) ∧ Q b s') E s := fun t => by
    simp only [callSpecialUnlessNone?]
    refine wpAny_bind ((special X J hs).here ?_)
    refine wpAny_holding (wpAny_bind ((PySem.W.bind_fn X _ (beq_iff_eq.mp hf)).here ?_))
    have ng : ((Value.ref g) == Value.none) = false := rfl
    simp only [ng, Bool.false_eq_true, if_false]
    refine wpAny_bind (wpAny_mono h (fun v s' z => ?_) fun _ _ z => z)
    obtain ⟨b, rfl, q⟩ := z
    exact wpAny_pure ⟨b, rfl, q⟩
  refine wpAny_bind (wpAny_mono (main _) (fun r s' z => ?_) fun _ _ z => z)
  obtain ⟨b, rfl, q⟩ := z
  exact wpAny_truthy_bool q
theorem fills_own {h : Heap} {nm : String} {cd : ClassData} {rest : List Value} {b : Bool} (X : K.In h) (hc : PySem.W.clsIn K C = some cd) (hm : cd.mro = .ref C :: rest) (hs : PySem.W.findIn K (.ref C) (dunderI nm) = some (some (.ref g))) :
    PySem.W.Looks M h (fillsInplaceSlot (.ref C) nm b) true := by
  intro A Q E s kp q
  unfold fillsInplaceSlot
  dsimp only
  have lm : PySem.W.Looks M h (mroOf (.ref C)) cd.mro := (PySem.W.looks_clsIn X hc).andThen (f := fun cd => pure cd.mro) .now
  refine wpAny_bind (lm A _ E s kp ?_)
  rw [hm]
  simp only [List.anyM]
  refine wpAny_bind (wpAny_bind ((PySem.W.looks_findIn X hs) A _ E s kp ?_))
  have hw : ownNameWrapper (.ref g) (dunderI nm) = false := rfl
  simp only [hw, Bool.not_false, if_true]
  exact wpAny_pure (wpAny_pure q)
theorem iand_own {y : Value} {op : Operator} {cd : ClassData} {rest : List Value} {Q : Value → Shared → Prop} (X : K.In s.heap) (J : PySem.W.InstAt s.heap x ox C od) (hc : PySem.W.clsIn K C = some cd) (hm : cd.mro = .ref C :: rest)
    (hs : PySem.W.findIn K (.ref C) (dunderI op.info.2) = some (some (.ref g))) (hf : PySem.W.isFn K (.ref g) = true)
    (h : wpAny (model prog w) A (call (.ref g) [.ref x, y]) (fun v s' => v ≠ .notImplemented ∧ Q v s') E s) : wpAny (model prog w) A (inplaceOp op (.ref x) y) Q E s := by
  unfold inplaceOp
  refine wpAny_holding ?_
  dsimp only
  refine wpAny_bind (J.type.here ?_)
  refine wpAny_bind ((fills_own (M := model prog w) (nm := op.info.2) X hc hm hs).here ?_)
  simp only [if_true]
  have main : wpAny (model prog w) A (tryMethod (.ref x) (dunderI op.info.2) y) (fun r s' => ∃ v, r = some v ∧ Q v s') E s := by
    unfold tryMethod
    refine wpAny_bind (spec (special X J hs) (PySem.W.bind_fn X _ (beq_iff_eq.mp hf)) (wpAny_mono h (fun v s' z => ?_) fun _ _ z => z))
    obtain ⟨n, q⟩ := z
    cases v <;> first | exact (n rfl).elim | exact wpAny_pure ⟨_, rfl, q⟩
  refine wpAny_bind (wpAny_mono main (fun r s' z => ?_) fun _ _ z => z)
  obtain ⟨v, rfl, q⟩ := z
  exact wpAny_bind (wpAny_rule (wpAny_pure q))
end
end OWN

/-! Own operators of a plain class as rules: o[i], o[i] = v, x in o, o &= p; list(o) and for x in o where __iter__ says iter of a dict. -/
namespace OWN
open PySem PySem.Spec PyProof.Rows L2
section
variable {X : Cx} {CX : CXT} {C g : Addr} {n : Nat} {sp : Sp} {E : XK} {ES : L2.St → XK}
abbrev ownF {P : Program} {w : World} {K : PySem.W.Frag} {mg : Str → Option Value} {base : Heap} {CX : CXT} {k : Nat} {f : Addr} {fd : FuncData} {ps : List Str} {sp : Sp} (F : FnOk P w K mg base CX k f fd ps sp) (b : Binds K fd ps []) : FnR P w K mg base CX k f (fun vs H Q E => sp (vs ++ []) H Q E) := F.raw b .nil
/-- the callee runs, what is raised wished for at the slots -/
theorem run_fnRS {pins : List (Addr × Obj)} {σ : L2.St} {H : Hp} {s : Shared} {Q : VK} {us : List Value} {vs : List V} (F : FnR X.prog X.w X.K X.mg X.base CX n g sp) (hr : Room n X.A) (hx : PassesAt CX X σ (ES σ)) (I : Inv X pins σ H s) (r : Vals vs us) (h : sp vs H Q (ES σ)) :
    wpAny (model X.prog X.w) X.A (call (.ref g) us) (EP X pins σ Q) X.xe s := by
  refine wpAny_call (codeAny_mono (F X.A X.stack s H us vs Q (ES σ) hr I.env0 r h) fun r s' hq => ?_)
  cases r with
  | error e => exact hx pins H s e s' I hq
  | ok fl =>
    cases fl with
    | ret u => exact I.after hq
    | next => exact False.elim hq
    | brk => exact False.elim hq
    | cont => exact False.elim hq
theorem passAll (hx : Passes CX X E) (σ : L2.St) : PassesAt CX X σ E := fun pins H s e s' I c => hx pins σ H s e s' I c
def rOwn2 (C : Addr) (sp : Sp) (E : XK) : R2 := fun x y H Q => ∃ a dx fs, x = .ref a ∧ H a = some (.ins C dx fs) ∧ sp [x, y] H Q E
/-- the callee runs within a built-in -/
theorem run_in1 {pins : List (Addr × Obj)} {σ : L2.St} {H : Hp} {s : Shared} {Q : VK} {us : List Value} {vs : List V} (F : FnR X.prog X.w X.K X.mg X.base CX n g sp) (hr : Room (n + 1) X.A) (hx : PassesAt CX X σ (ES σ)) (I : Inv X pins σ H s) (r : Vals vs us) (h : sp vs H Q (ES σ)) :
    wpAny (model X.prog X.w) X.A.in1 (call (.ref g) us) (EP X pins σ Q) X.xe s := by
  refine wpAny_call (codeAny_mono (F X.A.in1 X.stack s H us vs Q (ES σ) hr.in1 I.env0.in1 r h) fun r s' hq => ?_)
  cases r with
  | error e => exact hx pins H s e s' I hq
  | ok fl =>
    cases fl with
    | ret u => exact I.after hq
    | next => exact False.elim hq
    | brk => exact False.elim hq
    | cont => exact False.elim hq
/-- what stands as an index where the object's own def is asked -/
def OwnIx (b : Expr) : Prop := ∀ o i, subscripted b true o i = runValue (.builtin "lifetime.subscript" ⟨[o, i], []⟩)
/-- o[i], o an instance of an own class with __getitem__ -/
def tIxO (C : Addr) (sp : Sp) (ES : L2.St → XK) (ta tb : TE) : TE := fun σ H Q => ta σ H fun x H1 => tb σ H1 fun y H2 => rOwn2 C sp (ES σ) x y H2 Q
theorem pe_ixO {a b : Expr} {ta tb : TE} {pos : Pos} (m : Meth X.K C "__getitem__" g) (fi : PySem.W.fnIn X.K g = true) (F : FnR X.prog X.w X.K X.mg X.base CX n g sp) (hr : Room (n + 1) X.A) (hx : ∀ σ, PassesAt CX X σ (ES σ))
    (ha : PE X a ta) (hb : PE X b tb) (hs : OwnIx b) : PE X (.Subscript a b pos) (tIxO C sp ES ta tb) := by
  refine ⟨fun pins s σ H Q I h => ?_⟩
  refine Subscript_ (binT (R := fun x y H2 => rOwn2 C sp (ES σ) x y H2 Q) ha hb I h fun v u s2 x y H2 I2 rx ry q => ?_)
  obtain ⟨a, dx, fs, rfl, ha, q⟩ := q
  obtain rfl : v = Value.ref a := rx
  obtain ⟨mA, O, _⟩ := ins_get I2.hok ha
  obtain ⟨od, J, _⟩ := O.look
  obtain ⟨m0, hF⟩ := I2.fr
  exact PySem.W.sub_K hF I2.ok.mod.kin J m.at_ fi m.fn (run_in1 (us := [.ref a, u]) (vs := [.ref a, y]) F hr (hx σ) I2 (.cons rfl (.cons ry .nil)) q) (hs _ _)
/-- o[i] = v -/
def rSetO (C : Addr) (sp : Sp) (E : XK) : TSet := fun o i v H Q => ∃ a dx fs, o = .ref a ∧ H a = some (.ins C dx fs) ∧ sp [o, i, v] H (fun _ H' => Q H') E
theorem set_run {pins : List (Addr × Obj)} {σ : L2.St} {H : Hp} {s : Shared} {o i v : V} {ov iv u : Value} {Q : Hp → Prop} (m : Meth X.K C "__setitem__" g) (nd : PySem.W.mroIn X.K C (.type "collections.deque") = some false)
    (F : FnR X.prog X.w X.K X.mg X.base CX n g sp) (hr : Room n X.A) (hx : PassesAt CX X σ (ES σ)) (I : Inv X pins σ H s) (ro : RelV o ov) (ri : RelV i iv) (rv : RelV v u) (h : rSetO C sp (ES σ) o i v H Q) :
    wpAny (model X.prog X.w) X.A (setItem ov iv u) (fun _ s' => ∃ H', Inv X pins σ H' s' ∧ Q H') X.xe s := by
  obtain ⟨a, dx, fs, rfl, ha, q⟩ := h
  obtain rfl : ov = Value.ref a := ro
  obtain ⟨mA, O, _⟩ := ins_get I.hok ha
  obtain ⟨od, J, _⟩ := O.look
  have run := run_fnRS (us := [.ref a, iv, u]) (vs := [.ref a, i, v]) F hr hx I (.cons rfl (.cons ri (.cons rv .nil))) q
  refine setItem_own I.kIn J m.at_ m.fn nd (wpAny_mono run (fun r s' z => ?_) fun _ _ z => z)
  obtain ⟨v', H', I', _, q'⟩ := z
  exact ⟨H', I', q'⟩
theorem set_own (m : Meth X.K C "__setitem__" g) (nd : PySem.W.mroIn X.K C (.type "collections.deque") = some false) (F : FnR X.prog X.w X.K X.mg X.base CX n g sp) (hr : Room n X.A) (hx : Passes CX X E) : PSet X (rSetO C sp E) := by
  intro pins s σ H o i v ov iv u Q I ro ri rv h
  exact set_run (ES := fun _ => E) m nd F hr (passAll hx σ) I ro ri rv h
/-- x in o -/
def rInO (C : Addr) (sp : Sp) (E : XK) (neg : Bool) : R2 := fun x y H Q => ∃ a dx fs, y = .ref a ∧ H a = some (.ins C dx fs) ∧ sp [y, x] H (fun v H' => ∃ b, v = .bl b ∧ Q (.bl (b != neg)) H') E
theorem op_in_own (m : Meth X.K C "__contains__" g) (F : FnR X.prog X.w X.K X.mg X.base CX n g sp) (hr : Room n X.A) (hx : Passes CX X E) : OpR X (compareOp .In) (rInO C sp E false) := by
  intro pins s σ H x y v u Q I rx ry h
  obtain ⟨a, dx, fs, rfl, ha, q⟩ := h
  obtain rfl : u = Value.ref a := ry
  obtain ⟨mA, O, _⟩ := ins_get I.hok ha
  obtain ⟨od, J, _⟩ := O.look
  have run := run_fnRS (ES := fun _ => E) (us := [.ref a, v]) (vs := [.ref a, x]) F hr (passAll hx σ) I (.cons rfl (.cons rx .nil)) q
  show wpAny _ _ (contains (.ref a) v >>= fun b => pure (Value.bool b)) _ _ s
  refine wpAny_bind (contains_own I.kIn J m.at_ m.fn (wpAny_mono run (fun r s' z => ?_) fun _ _ z => z))
  obtain ⟨v', H', I', rv, b, rfl, q'⟩ := z
  obtain rfl : r = Value.bool b := rv
  refine ⟨b, rfl, wpAny_pure ⟨.bl b, H', I', rfl, ?_⟩⟩
  cases b <;> exact q'
theorem op_notin_own (m : Meth X.K C "__contains__" g) (F : FnR X.prog X.w X.K X.mg X.base CX n g sp) (hr : Room n X.A) (hx : Passes CX X E) : OpR X (compareOp .NotIn) (rInO C sp E true) := by
  intro pins s σ H x y v u Q I rx ry h
  obtain ⟨a, dx, fs, rfl, ha, q⟩ := h
  obtain rfl : u = Value.ref a := ry
  obtain ⟨mA, O, _⟩ := ins_get I.hok ha
  obtain ⟨od, J, _⟩ := O.look
  have run := run_fnRS (ES := fun _ => E) (us := [.ref a, v]) (vs := [.ref a, x]) F hr (passAll hx σ) I (.cons rfl (.cons rx .nil)) q
  show wpAny _ _ (contains (.ref a) v >>= fun b => pure (Value.bool (!b))) _ _ s
  refine wpAny_bind (contains_own I.kIn J m.at_ m.fn (wpAny_mono run (fun r s' z => ?_) fun _ _ z => z))
  obtain ⟨v', H', I', rv, b, rfl, q'⟩ := z
  obtain rfl : r = Value.bool b := rv
  refine ⟨b, rfl, wpAny_pure ⟨.bl (!b), H', I', rfl, ?_⟩⟩
  cases b <;> exact q'
/-- o op= y -/
def rIpO (C : Addr) (sp : Sp) (E : XK) : TIp := fun x y H Q => ∃ a dx fs, x = .ref a ∧ H a = some (.ins C dx fs) ∧ sp [x, y] H Q E
theorem ip_own {op : Operator} (hs : PySem.W.findIn X.K (.ref C) (dunderI op.info.2) = some (some (.ref g))) (hf : PySem.W.isFn X.K (.ref g) = true) (hm : ∃ cd rest, PySem.W.clsIn X.K C = some cd ∧ cd.mro = .ref C :: rest)
    (F : FnR X.prog X.w X.K X.mg X.base CX n g sp) (hr : Room n X.A) (hx : Passes CX X E) : PIp X op (rIpO C sp E) := by
  intro pins s σ H x y v u Q I rx ry h
  obtain ⟨a, dx, fs, rfl, ha, q⟩ := h
  obtain ⟨cd, rest, hc, hm⟩ := hm
  obtain rfl : v = Value.ref a := rx
  obtain ⟨mA, O, _⟩ := ins_get I.hok ha
  obtain ⟨od, J, _⟩ := O.look
  have run := run_fnRS (ES := fun _ => E) (us := [.ref a, u]) (vs := [.ref a, y]) F hr (passAll hx σ) I (.cons rfl (.cons ry .nil)) q
  refine iand_own I.kIn J hc hm hs hf (wpAny_mono run (fun r s' z => ⟨?_, z⟩) fun _ _ z => z)
  obtain ⟨v', H', I', rv, q'⟩ := z
  rintro rfl
  cases v' with
  | int _ => obtain ⟨_, e⟩ := rv; cases e
  | str _ => obtain ⟨_, e⟩ := rv; cases e
  | byt _ => obtain ⟨_, e⟩ := rv; cases e
  | flt _ => obtain ⟨_, e⟩ := rv; cases e
  | _ => cases rv
end
end OWN

/-! Books, apart from any law: the entries, their answers, dicts of texts by key lists and functions. -/
namespace BK
open PySem L2
abbrev ENT : List Str := ["read late", "read under", "read below", "read above", "write late", "write under", "write below", "write above", "write free passed", "write own passed", "write late passed", "write under passed", "write below passed", "write above passed"]
def chs (e : Str) : List Str :=
  if e = "read late" then ["last", "old", "abort"] else if e = "read under" then ["last", "old", "open", "wait", "abort"]
  else if e = "read below" ∨ e = "read above" then ["last", "open", "wait", "abort"] else if e = "write free passed" ∨ e = "write own passed" then ["put", "abort"]
  else if e = "write late" ∨ e = "write late passed" then ["skip", "abort"] else ["skip", "wait", "wound", "abort"]
theorem ent_nodup : ENT.Nodup := by decide +kernel
theorem ent_len : ENT.length = 14 := rfl
theorem chs_len (e : Str) : (chs e).length ≤ 5 ∧ 0 < (chs e).length := by
  unfold chs
  repeat' split
  all_goals decide
/-! ### membership by values -/
theorem eqV_str (a b : Str) : eqV (.str a) (.str b) = decide (a = b) := by
  show (a == b) = _
  by_cases h : a = b
  · subst h; simp
  · rw [decide_eq_false h]; exact beq_eq_false_iff_ne.mpr h
theorem inV_str (e : Str) (L : List Str) : inV (.str e) (L.map V.str) = decide (e ∈ L) := by
  unfold inV
  rw [List.any_map]
  by_cases h : e ∈ L
  · rw [decide_eq_true h, List.any_eq_true]
    exact ⟨e, h, by show eqV (.str e) (.str e) = true; rw [eqV_str]; exact decide_eq_true rfl⟩
  · rw [decide_eq_false h, List.any_eq_false]
    intro y hy z
    have z' : eqV (.str y) (.str e) = true := z
    rw [eqV_str] at z'
    exact h (of_decide_eq_true z' ▸ hy)
theorem inV_not {v : V} {L : List Str} (h : ∀ e, v = .str e → e ∉ L) : inV v (L.map V.str) = false := by
  cases v with
  | str e => rw [inV_str]; exact decide_eq_false (h e rfl)
  | _ => unfold inV; rw [List.any_map, List.any_eq_false]; intro y _ z; exact absurd z (by simp [eqV])
theorem flat_strs (L : List Str) : (L.map V.str).all flatV = true := by
  rw [List.all_eq_true]
  intro v hv
  obtain ⟨e, _, rfl⟩ := List.mem_map.mp hv
  rfl
/-! ### dicts from texts: their keys in order, and a function -/
def tab {α : Type} (g : α → V) (L : List Str) (f : Str → α) : List (Key × V) := L.map fun e => (Sum.inr e, g (f e))
def put {α : Type} (f : Str → α) (e : Str) (a : α) : Str → α := fun x => if x = e then a else f x
section
variable {α : Type} {g : α → V} {L : List Str} {f : Str → α} {e : Str} {a : α}
theorem put_same : put f e a e = a := if_pos rfl
theorem put_ne {x : Str} (h : x ≠ e) : put f e a x = f x := if_neg h
theorem tab_len : (tab g L f).length = L.length := List.length_map ..
theorem val_tab : ∀ {L : List Str}, valV (tab g L f) (Sum.inr e) = if e ∈ L then some (g (f e)) else none
  | [] => rfl
  | y :: L => by
    have ih := val_tab (L := L)
    unfold valV tab at ih ⊢
    rw [List.map_cons, List.find?_cons]
    by_cases h : y = e
    · subst h
      have d : decide ((Sum.inr y : Key) = Sum.inr y) = true := decide_eq_true rfl
      simp only [d]
      rw [if_pos (List.mem_cons_self ..)] <;> rfl
    · have d : decide ((Sum.inr y : Key) = Sum.inr e) = false := decide_eq_false fun q => h (Sum.inr.inj q)
      simp only [d]
      rw [ih]
      by_cases h2 : e ∈ L
      · rw [if_pos h2, if_pos (List.mem_cons_of_mem _ h2)]
      · rw [if_neg h2, if_neg fun z => (List.mem_cons.mp z).elim (fun q => h q.symm) h2]
theorem val_in (h : e ∈ L) : valV (tab g L f) (Sum.inr e) = some (g (f e)) := by rw [val_tab, if_pos h]
theorem val_out (h : e ∉ L) : valV (tab g L f) (Sum.inr e) = none := by rw [val_tab, if_neg h]
theorem any_tab : ((tab g L f).any fun kv => decide (kv.1 = Sum.inr e)) = decide (e ∈ L) := by
  unfold tab
  rw [List.any_map]
  by_cases h : e ∈ L
  · rw [decide_eq_true h, List.any_eq_true]
    exact ⟨e, h, decide_eq_true rfl⟩
  · rw [decide_eq_false h, List.any_eq_false]
    intro y hy z
    exact h (Sum.inr.inj (of_decide_eq_true z) ▸ hy)
theorem put_in (h : e ∈ L) : putK (tab g L f) (Sum.inr e) (g a) = tab g L (put f e a) := by
  unfold putK
  rw [any_tab, decide_eq_true h, if_pos rfl]
  unfold tab
  rw [List.map_map]
  refine List.map_congr_left fun y _ => ?_
  show (if (Sum.inr y : Key) = Sum.inr e then ((Sum.inr y : Key), g a) else (Sum.inr y, g (f y))) = (Sum.inr y, g (put f e a y))
  by_cases q : y = e
  · subst q
    rw [if_pos rfl, put_same]
  · rw [if_neg fun z => q (Sum.inr.inj z), put_ne q]
theorem put_new (h : e ∉ L) : putK (tab g L f) (Sum.inr e) (g a) = tab g (L ++ [e]) (put f e a) := by
  unfold putK
  rw [any_tab, decide_eq_false h, if_neg Bool.false_ne_true]
  unfold tab
  rw [List.map_append]
  have e1 : L.map (fun x => ((Sum.inr x : Key), g (f x))) = L.map (fun x => ((Sum.inr x : Key), g (put f e a x))) :=
    List.map_congr_left fun y hy => by rw [put_ne (x := y) fun q : y = e => h (q ▸ hy)]
  rw [e1]
  have e2 : [e].map (fun x => ((Sum.inr x : Key), g (put f e a x))) = [(Sum.inr e, g a)] := by
    show [((Sum.inr e : Key), g (put f e a e))] = _
    rw [put_same]
  rw [e2]
theorem tab_congr {f' : Str → α} (h : ∀ x ∈ L, f x = f' x) : tab g L f = tab g L f' := List.map_congr_left fun y hy => by rw [h y hy]
end
/-- a table of texts -/
abbrev tabS (L : List Str) (f : Str → Str) : List (Key × V) := tab V.str L f
theorem upd_swap {H : Hp} {a d : Addr} {o1 o2 o3 : HO} (h : d ≠ a) : upd (upd (upd H d o1) a o2) d o3 = upd (upd H d o3) a o2 := by
  funext b
  by_cases h1 : b = d
  · subst h1
    rw [upd_same, upd_ne h, upd_same]
  · rw [upd_ne h1]
    by_cases h2 : b = a
    · subst h2
      rw [upd_same, upd_same]
    · rw [upd_ne h2, upd_ne h2, upd_ne h1, upd_ne h1]
/-- d[k], d a written dict with text keys -/
def rIxKd (K : PySem.W.Frag) (d : Addr) : R2 := fun x y H Q => ∃ (z : Str) (u0 : Value) (v0 : V), x = .ref d ∧ y = .str z ∧ PySem.W.nsIn K d z = some (some u0) ∧ RelV v0 u0 ∧ Q v0 H
theorem ix_kd {X : Cx} {d : Addr} {es : Array DictEntry} {n : Nat} (D : KDict X.K X.w d es n) : IxR X (rIxKd X.K d) := by
  intro value slice pins s σ H x y v u Q I rx ry h hs
  obtain ⟨z, u0, v0, rfl, rfl, e, r, q⟩ := h
  obtain rfl : v = Value.ref d := rx
  obtain ⟨t, rfl⟩ := ry
  exact PyProof.Rows.tail_any (kd_type D I) slot_dict_getitem.lookup (wpAny_getItem_of (PySem.strKind_is X.prog X.w z t) (PySem.W.mapOf_K (prog := X.prog) I.kIn D.at_ D.lit) (PySem.W.find_K D.at_ e) ⟨v0, H, I.tok _, r, q⟩) hs
/-! ### the pairs of a given dict -/
def isAnsB (e : Str) : V → Bool
  | .str a => decide (a ∈ chs e)
  | _ => false
def okPair (q : Str × V) : Bool := decide (q.1 ∈ ENT) && isAnsB q.1 q.2
def fill : List (Str × V) → (Str → Str) → (Str → Str)
  | [], f => f
  | (e, .str a) :: r, f => fill r (put f e a)
  | (_, _) :: r, f => fill r f
def prs (gv : List (Str × V)) : List (Key × V) := gv.map fun q => (Sum.inr q.1, q.2)
theorem prs_len (gv : List (Str × V)) : (prs gv).length = gv.length := List.length_map ..
theorem prs_at {gv : List (Str × V)} {i : Nat} {k : Key} {v : V} (h : (prs gv)[i]? = some (k, v)) : ∃ e, gv[i]? = some (e, v) ∧ k = Sum.inr e := by
  unfold prs at h
  rw [List.getElem?_map] at h
  cases q : gv[i]? with
  | none => rw [q] at h; cases h
  | some p =>
    rw [q] at h
    cases h
    exact ⟨p.1, rfl, rfl⟩
theorem fill_snoc : ∀ {gv : List (Str × V)} {e a : Str} {f : Str → Str}, fill (gv ++ [(e, .str a)]) f = put (fill gv f) e a
  | [], _, _, _ => rfl
  | (e', .str a') :: r, e, a, f => fill_snoc (gv := r) (f := put f e' a')
  | (e', .non) :: r, e, a, f => fill_snoc (gv := r) (f := f)
  | (e', .bl _) :: r, e, a, f => fill_snoc (gv := r) (f := f)
  | (e', .int _) :: r, e, a, f => fill_snoc (gv := r) (f := f)
  | (e', .byt _) :: r, e, a, f => fill_snoc (gv := r) (f := f)
  | (e', .flt _) :: r, e, a, f => fill_snoc (gv := r) (f := f)
  | (e', .ref _) :: r, e, a, f => fill_snoc (gv := r) (f := f)
  | (e', .ty _) :: r, e, a, f => fill_snoc (gv := r) (f := f)
theorem fill_tab {L : List Str} (hL : L.Nodup) {t f : Str → Str} : ∀ x, fill (L.map fun e => (e, V.str (t e))) f x = if x ∈ L then t x else f x := by
  induction L generalizing f with
  | nil => intro x; rfl
  | cons e r ih =>
    intro x
    have nd := List.nodup_cons.mp hL
    show fill (r.map fun e => (e, V.str (t e))) (put f e (t e)) x = _
    rw [ih nd.2]
    by_cases h : x ∈ r
    · rw [if_pos h, if_pos (List.mem_cons_of_mem _ h)]
    · rw [if_neg h]
      by_cases q : x = e
      · subst q
        rw [put_same, if_pos (List.mem_cons_self ..)]
      · rw [put_ne q, if_neg fun z => (List.mem_cons.mp z).elim q h]
theorem tabS_prs {L : List Str} {f : Str → Str} : tabS L f = prs (L.map fun e => (e, V.str (f e))) := by
  unfold tabS tab prs
  rw [List.map_map]
  rfl
/-! ### books -/
/-- at b a book with the answers f, ends e, keep k; its own dict at dx, the answers' dict at d -/
structure Bk (C : Addr) (H : Hp) (b dx d : Addr) (f : Str → Str) (e : Str) (k : Int) : Prop where
  ins : H b = some (.ins C dx [(("_ends" : Str), .str e), (("_keep" : Str), .int k), (("_answers" : Str), .ref d)])
  tbl : H d = some (.dK (tabS ENT f))
theorem Bk.same {C : Addr} {H H' : Hp} {b dx d : Addr} {f : Str → Str} {e : Str} {k : Int} (h : Bk C H b dx d f e k) (s : Same H H') : Bk C H' b dx d f e k := ⟨s _ _ h.ins, s _ _ h.tbl⟩
theorem Bk.ne {C : Addr} {H : Hp} {b dx d : Addr} {f : Str → Str} {e : Str} {k : Int} (h : Bk C H b dx d f e k) : b ≠ d := fun z => by
  have := h.ins
  rw [z, h.tbl] at this
  cases this
/-- all but what stands at d is as it was -/
def But (d : Addr) (H H' : Hp) : Prop := ∀ b o, b ≠ d → H b = some o → H' b = some o
theorem But.upd {d : Addr} {H : Hp} {o : HO} : But d H (upd H d o) := fun b o' hb z => by rw [upd_ne hb]; exact z
theorem But.of {d : Addr} {H H' : Hp} (h : Same H H') : But d H H' := fun b o _ z => h b o z
theorem But.trans {d : Addr} {H H1 H2 : Hp} (a : But d H H1) (b : But d H1 H2) : But d H H2 := fun c o hc h => b c o hc (a c o hc h)
theorem But.same {d : Addr} {H H1 H2 : Hp} (a : But d H H1) (b : Same H1 H2) : But d H H2 := fun c o hc h => b c o (a c o hc h)
end BK

namespace K27
open PySem L2 SI CM BK OWN TX TL
section
variable {w : World} {K : PySem.W.Frag} {mg : Str → Option Value} {base : Heap} (T : Txt w K mg)
theorem log_of {n : Nat} (h : n < 10 ^ 50) : ((n : Int)).natAbs.log2 < 1920 := by
  show n.log2 < 1920
  by_cases h0 : n = 0
  · subst h0
    decide
  · exact (Nat.log2_lt h0).mpr (Nat.lt_of_lt_of_le h (by decide +kernel))
theorem num_len {n : Nat} (h : n < 10 ^ 50) : (Str.ofString (toString ((n : Nat) : Int))).length ≤ 50 := by
  rw [len_tl, tl_num]
  exact numL_len (by decide) h
def spBadI (C : Addr) (f : Str) : Sp := fun vs H Q _ => ∃ a, ∃ i : Nat, vs = [.ref a, .int (i : Int)] ∧ H a = some (exo a C none) ∧ i < 10 ^ 50 ∧ ∀ dx, H dx = none → dx ≠ a → Q .non (upd (upd H dx (exd dx [(f, .int (i : Int))])) a (exo a C (some dx)))
theorem ok_badI : FnOk PP w K mg base CX0 1 T.f_BadStep_init T.d_BadStep_init ["self", "index"] (spBadI T.c_BadStep "index") := by
  refine ok_sup (N := ["self", "index", "__class__"]) T.S_BadStep_init sc_BadStep_init rfl (show (defScope s_BadStep_init).names.lookup ("super" : Str) = some .globalImplicit by decide +kernel) rfl rfl (fun vs H Q E h => ?_) (fun A outer s H vs Q E hr h => ?_)
  · obtain ⟨a, i, rfl, _⟩ := h
    rfl
  · obtain ⟨a, i, rfl, ha, hi, k⟩ := h
    refine ⟨a, _, _, _, pa_cons (pe_joined (.cons pe_str (.cons (pe_fmt (pv 1)) .nil))) pa_nil, pss_one (ps_ost (pv 0) (pv 1)), rfl, fun M B u Q' E' s' z => PySem.Calls.evalArgs_plain z, rfl, rfl, rfl, ha, ?_⟩
    refine ⟨_, rfl, (by decide +kernel : (Str.empty ++ Str.ofString "no step at index ").length ≤ sizeLine), _, rfl, .inr ⟨i, rfl, log_of hi, _, rfl, ?_, by show 1 ≤ 1000; decide, ha, ?_⟩⟩
    · show (Str.empty ++ Str.ofString "no step at index " ++ Str.ofString (toString (i : Int))).length ≤ sizeLine
      rw [len_tl, tl_append, List.length_append, ← len_tl, ← len_tl]
      have h1 : (Str.empty ++ Str.ofString "no step at index ").length = 17 := by decide +kernel
      have h2 : (Str.ofString (toString (i : Int))).length ≤ 50 := num_len hi
      rw [h1, sizeLine_eq]
      omega
    · exact ⟨_, rfl, _, rfl, _, _, rfl, T.oex_BadStep, T.na_BadStep_index, .inl ⟨ha, fun dx n ne => k dx n ne⟩⟩
theorem wd_of : ∀ {ks : List ((Str × Tok) × (Str × Tok))} {l : List DictEntry}, l.map (fun e => (e.key, e.val)) = ks.map (fun q => (Value.str q.1.1 q.1.2, Value.str q.2.1 q.2.2)) →
    Paired (fun (e : DictEntry) (q : Str × Str) => (∃ t, e.key = .str q.1 t) ∧ ∃ t, e.val = .str q.2 t) l (ks.map fun q => (q.1.1, q.2.1))
  | [], [], _ => .nil
  | [], _ :: _, h => by cases h
  | _ :: _, [], h => by cases h
  | q :: ks, e :: l, h => by
    rw [List.map_cons, List.map_cons, List.cons.injEq, Prod.mk.injEq] at h
    exact .cons ⟨⟨_, h.1.1⟩, _, h.1.2⟩ (wd_of h.2)
def WL : List (Str × Str) := [("r", "read"), ("w", "write"), ("c", "commit"), ("a", "abort")]
theorem wdct : WDct K w T.o_WORDS WL := by
  obtain ⟨es, ep, h1, h2, h3, _, k0, k1, k2, k3, v0, v1, v2, v3, h4⟩ := T.q_WORDS
  refine ⟨es, ep, h1, h2, h3, ?_⟩
  exact wd_of (ks := [(("r", k0), ("read", v0)), (("w", k1), ("write", v1)), (("c", k2), ("commit", v2)), (("a", k3), ("abort", v3))]) h4
abbrev DG : Str := "0123456789"
theorem sign0 (c : Nat) : decide (V.str ⟨#[c]⟩ = V.str "0") = decide (c = 48) := by
  have e : ("0" : Str) = ⟨#[48]⟩ := by decide +kernel
  rw [e]
  refine decide_eq_decide.mpr ⟨fun h => ?_, fun h => by rw [h]⟩
  have h1 := V.str.inj h
  have h2 : tl (⟨#[c]⟩ : Str) = tl (⟨#[48]⟩ : Str) := by rw [h1]
  have h3 : [c] = [48] := h2
  simpa using h3
theorem digit_in (c : Nat) : decide (c ∈ tl DG) = (decide (48 ≤ c) && decide (c ≤ 57)) := by
  have e : tl DG = [48, 49, 50, 51, 52, 53, 54, 55, 56, 57] := by decide +kernel
  rw [e, ← Bool.decide_and]
  refine decide_eq_decide.mpr ?_
  simp only [List.mem_cons, List.not_mem_nil, or_false]
  omega
def spNum : Sp := fun vs H Q _ => ∃ z, vs = [.str z] ∧ z.length ≤ 1000 ∧ ∀ H', Same H H' → Q (.bl (numOk (tl z))) H'
theorem ok_num : FnOk PP w K mg base CX0 1 T.f_is_numeral T.d_is_numeral ["digits"] spNum := by
  refine T.F_is_numeral.ok sc_is_numeral (fun vs H Q E h => ?_) (fun cdv A outer s H vs Q E hr h => ?_)
  · obtain ⟨z, rfl, _⟩ := h
    rfl
  · obtain ⟨z, rfl, hz, k⟩ := h
    obtain ⟨t1, hG⟩ := T.g_GREATEST
    obtain ⟨t2, hM⟩ := T.g_MOST_DIGITS
    obtain ⟨t3, hD⟩ := T.g_DIGITS
    have hzl : z.length ≤ sizeLine := Nat.le_trans hz (by decide)
    refine ⟨_, pss_cons (ps_if (pt_not (pt_chain op_le op_le pe_int (pe_callB call_len_str (by rfl) T.n_len PySem.boot_len (pa_cons (pv 0) pa_nil)) (pe_glob (v := .int 31) (by rfl) hM ⟨_, rfl⟩))) (pss_one (ps_ret pe_bl)) pss_nil)
      (pss_cons (ps_if (PW.pt (pw_or (pt_cmpR op_eq (pe_ix ix_str (pv 0) pe_int (fun _ _ => rfl)) pe_str (nomark _)) (pw_or1 (pt_not (pt_val (pe_callB (cr_all rfl) (by rfl) T.n_all (by decide +kernel) (pa_cons
          (pe_lc (own := [("digit", 1)]) (g := gName 1) (tt := tYes) (by rfl) sc_is_numeral.nd (pi_str (pv 0)) (blkOk_by (N := ["digits", "digit"]) (sc := defScope s_is_numeral) (by decide +kernel)) (fun _ _ _ _ _ => pg_name (i := 1) sc_is_numeral.nd rfl (Or.inl rfl)) (fun _ _ _ _ _ => pts_nil)
            (fun _ _ _ _ _ => pe_cmpR op_in_sign (pv 1) (pe_glob (v := .str "0123456789") (by rfl) hD ⟨_, rfl⟩) rfl)) pa_nil))))))) (pss_one (ps_ret pe_bl)) pss_nil)
      (pss_one (ps_ret (pe_cmpR op_le (pe_callTy call_int_str (by rfl) T.n_int (by decide +kernel) (pa_cons (pv 0) pa_nil)) (pe_glob (v := .int 1000000000000000000000000000000) (by rfl) hG ⟨_, rfl⟩) (nomark _))))), ?_⟩
    refine ⟨_, rfl, _, rfl, hzl, _, _, rfl, rfl, _, rfl, ?_⟩
    have hl : (z.length : Int) = ((tl z).length : Int) := by rw [len_tl]
    by_cases h1 : 1 ≤ (tl z).length
    · rw [hl, decide_eq_true (by omega : (1 : Int) ≤ ((tl z).length : Int))]
      refine iteT ⟨_, _, rfl, rfl, _, rfl, ?_⟩
      by_cases h31 : (tl z).length ≤ 31
      · rw [decide_eq_true (by omega : ((tl z).length : Int) ≤ 31)]
        refine iteF ?_
        obtain ⟨c, d, ec⟩ : ∃ c d, tl z = c :: d := by
          cases hq : tl z with
          | nil =>
            rw [hq] at h1
            cases h1
          | cons c d => exact ⟨c, d, rfl⟩
        refine ⟨_, rfl, z, 0, c, rfl, rfl, hzl, ?_, ?_⟩
        · have q := atI_nat (xs := tl z) (j := 0) (v := c) (by rw [ec] <;> rfl)
          exact q
        refine ⟨rfl, _, rfl, ?_⟩
        rw [sign0]
        by_cases h48 : c = 48
        · rw [decide_eq_true h48]
          refine iteT ?_
          refine iteT ?_
          have e : numOk (tl z) = false := by
            unfold numOk
            rw [ec, h48]
            simp
          have q := k H (Same.refl H)
          rw [e] at q
          exact q
        · rw [decide_eq_false h48]
          refine iteF ⟨_, rfl, z, rfl, fun D nD => lc_it (walk_str (z := z)) (fun i H' => H' D = some (.lst (((tl z).take i).map fun c => V.bl (decide (c ∈ tl DG)))) ∧ Same H H') ⟨upd_same, same_new (Same.refl H) nD⟩ (fun _ _ _ _ => trivial) ?_ ?_⟩
          · rintro i x H1 H' hi ⟨hD', sm⟩ ⟨rfl, c', hc', rfl⟩
            refine ⟨rfl, ?_⟩
            refine ⟨_, rfl, c', _, rfl, rfl, _, hD', small1000 (by rw [List.length_map, List.length_take]; rw [len_tl] at hz; omega), ?_, ?_⟩
            · rw [upd_same]
              have hc2 : (tl z)[i]? = some c' := by rw [← Array.getElem?_toList] at hc'; exact hc'
              rw [List.take_add_one, hc2, List.map_append]
              rfl
            · intro b o q
              rw [upd_ne (ne_of_none q nD)]
              exact sm b o q
          · rintro H' ⟨hD', sm⟩
            have hn : z.cps.size = (tl z).length := by simp [tl]
            rw [hn, List.take_length] at hD'
            refine ⟨D, (tl z).map fun c => decide (c ∈ tl DG), rfl, SqL.of (by rw [hD', List.map_map] <;> rfl), _, rfl, ?_⟩
            have eall : ((tl z).map fun c => decide (c ∈ tl DG)).all id = (tl z).all (fun c => decide (48 ≤ c) && decide (c ≤ 57)) := by
              rw [List.all_map]
              congr 1
              funext c
              exact digit_in c
            rw [eall]
            cases hall : (tl z).all (fun c => decide (48 ≤ c) && decide (c ≤ 57)) with
            | false =>
              refine iteT ?_
              have e : numOk (tl z) = false := by
                unfold numOk
                rw [hall]
                simp
              have q := k H' sm
              rw [e] at q
              exact q
            | true =>
              refine iteF ?_
              have hne : tl z ≠ [] := by rw [ec]; simp
              have hi := SX.int_S hall hne (by omega)
              refine ⟨_, rfl, z, _, rfl, hi, by rw [len_tl]; omega, _, _, rfl, rfl, ?_⟩
              have e : numOk (tl z) = decide (((NumText.digitsVal (tl z) : Nat) : Int) ≤ 1000000000000000000000000000000) := by
                unfold numOk
                rw [hall, decide_eq_true h1, decide_eq_true h31, decide_eq_false (show ¬ (tl z).head? = some 48 by rw [ec]; simpa using h48)]
                have : decide (NumText.digitsVal (tl z) ≤ topN) = decide (((NumText.digitsVal (tl z) : Nat) : Int) ≤ 1000000000000000000000000000000) := by
                  have e2 : (topN : Int) = 1000000000000000000000000000000 := rfl
                  rw [← e2]
                  exact decide_eq_decide.mpr (by omega)
                rw [this]
                rfl
              have q := k H' sm
              rw [e] at q
              exact q
      · rw [decide_eq_false (by omega : ¬ ((tl z).length : Int) ≤ 31)]
        refine iteT ?_
        have e : numOk (tl z) = false := by
          unfold numOk
          rw [decide_eq_false h31]
          simp
        have q := k H (Same.refl H)
        rw [e] at q
        exact q
    · rw [hl, decide_eq_false (by omega : ¬ (1 : Int) ≤ ((tl z).length : Int))]
      refine iteF ⟨_, rfl, ?_⟩
      refine iteT ?_
      have e : numOk (tl z) = false := by
        unfold numOk
        rw [decide_eq_false h1]
        simp
      have q := k H (Same.refl H)
      rw [e] at q
      exact q
end
end K27

namespace K27
open PySem L2 SI CM BK OWN TX TL
section
variable {w : World} {K : PySem.W.Frag} {mg : Str → Option Value} {base : Heap} (T : Txt w K mg)
/-- a step as a tuple -/
def stepV (it : Str) (p : Kd × Nat) : List V := if p.1.has = true then [.str p.1.nm, .int (p.2 : Int), .str it] else [.str p.1.nm, .int (p.2 : Int)]
/-- at p a list of the steps L -/
def IsRun (H : Hp) (p : Addr) (L : List (Kd × Nat)) (it : Str) : Prop :=
  ∃ qs : List Addr, H p = some (.lst (qs.map V.ref)) ∧ qs.length = L.length ∧ ∀ (i : Nat) q x, qs[i]? = some q → L[i]? = some x → H q = some (.tup (stepV it x))
theorem IsRun.same {H H' : Hp} {p : Addr} {L : List (Kd × Nat)} {it : Str} (s : Same H H') (r : IsRun H p L it) : IsRun H' p L it := by
  obtain ⟨qs, h1, h2, h3⟩ := r
  exact ⟨qs, s _ _ h1, h2, fun i q x a b => s _ _ (h3 i q x a b)⟩
def Good (L : List (Kd × Nat)) : Prop := ∀ x ∈ L, 1 ≤ x.2 ∧ x.2 ≤ topN
theorem look_nil : WL.lookup (⟨#[]⟩ : Str) = none := by decide +kernel
theorem look_sg (k : Kd) : WL.lookup (⟨#[k.sg]⟩ : Str) = some k.nm := by cases k <;> decide +kernel
theorem str1_inj {a b : Nat} : (⟨#[a]⟩ : Str) = ⟨#[b]⟩ ↔ a = b := by
  constructor
  · intro h
    have h2 : tl (⟨#[a]⟩ : Str) = tl (⟨#[b]⟩ : Str) := by rw [h]
    have h3 : [a] = [b] := h2
    simpa using h3
  · intro h
    rw [h]
theorem look_isSome (c : Nat) : (WL.lookup (⟨#[c]⟩ : Str)).isSome = sgOk c := by
  have e1 : ("r" : Str) = ⟨#[114]⟩ := by decide +kernel
  have e2 : ("w" : Str) = ⟨#[119]⟩ := by decide +kernel
  have e3 : ("c" : Str) = ⟨#[99]⟩ := by decide +kernel
  have e4 : ("a" : Str) = ⟨#[97]⟩ := by decide +kernel
  by_cases h1 : c = 114
  · subst h1; decide +kernel
  by_cases h2 : c = 119
  · subst h2; decide +kernel
  by_cases h3 : c = 99
  · subst h3; decide +kernel
  by_cases h4 : c = 97
  · subst h4; decide +kernel
  unfold WL sgOk
  rw [e1, e2, e3, e4]
  have g : ∀ {x : Nat}, ¬ c = x → ((⟨#[c]⟩ : Str) == ⟨#[x]⟩) = false := fun {x} h => by
    have : ¬ (⟨#[c]⟩ : Str) = ⟨#[x]⟩ := fun q => h (str1_inj.mp q)
    simpa using this
  simp [List.lookup, g h1, g h2, g h3, g h4, h1, h2, h3, h4]
theorem cut_one {z : Str} {c : Nat} {d : List Nat} (e : tl z = c :: d) : cutS z none (some 1) = ⟨#[c]⟩ := ext_tl (by rw [cut_head, e] <;> rfl)
theorem cut_nil {z : Str} (e : tl z = []) : cutS z none (some 1) = ⟨#[]⟩ := ext_tl (by rw [cut_head, e] <;> rfl)
theorem cut_rest {z : Str} {c : Nat} {d : List Nat} (e : tl z = c :: d) : cutS z (some 1) none = ⟨d.toArray⟩ := ext_tl (by rw [cut_tail, e] <;> rfl)
theorem in_two (k : Kd) : inV (.str k.nm) [.str "read", .str "write"] = k.has := by cases k <;> decide +kernel
def spSteps (B : Addr) : Sp := fun vs H Q E => ∃ t it, vs = [.str t, .str it] ∧ t.length ≤ 100000 ∧
  ((tl t = [] ∧ ∀ H' p, Same H H' → IsRun H' p [] it → Q (.ref p) H') ∨
   (∃ L, L ≠ [] ∧ tl t ≠ [] ∧ Good L ∧ L.length ≤ 1000 ∧ Txt.split t sp = L.map word ∧ ∀ H' p, Same H H' → IsRun H' p L it → Q (.ref p) H') ∨
   (∃ L b rest, tl t ≠ [] ∧ Good L ∧ L.length ≤ 1000 ∧ Txt.split t sp = L.map word ++ b :: rest ∧ wordOk (tl b) = false ∧ b.length ≤ 100 ∧
     ∀ H' d, Same H H' → H' d = some (.xd [(("index" : Str), .int (L.length : Int))]) → E (.ref B) (some d) H'))
theorem ok_steps : FnOk PP w K mg base (L2.CX PP w) 4 T.f_steps_of T.d_steps_of ["text", "item"] (spSteps T.c_BadStep) := by
  refine T.F_steps_of.ok sc_steps_of (fun vs H Q E h => ?_) (fun cdv A outer s H vs Q E hr h => ?_)
  · obtain ⟨t, it, rfl, _⟩ := h
    rfl
  · obtain ⟨t, it, rfl, htl, hk⟩ := h
    have hr1 : Room 1 _ := hr.mono (by decide)
    have hr2 : Room 2 _ := hr.mono (by decide)
    refine ⟨_, pss_cons (ps_if (pt_cmpR op_eq (pv 0) pe_str (nomark _)) (pss_one (ps_ret (pe_lst pa_nil))) pss_nil)
      (pss_cons (ps_set (i := 2) sc_steps_of.nd rfl (.inl rfl) (pe_lst pa_nil))
      (pss_cons (ps_for (passes_of rfl) rfl (pi_enum (by rfl) T.n_enumerate (pa_cons (pe_split (pv 0) pe_str) pa_nil)) (pg_tup rfl (pgs_cons (pg_name (i := 3) sc_steps_of.nd rfl (.inl rfl)) (pgs_cons (pg_name (i := 4) sc_steps_of.nd rfl (.inl rfl)) pgs_nil)))
        (pss_cons (ps_if (PW.pt (pw_or (pt_cmpR op_notinW (pe_slice sl_str (pv 4) po_none (po_some pe_int)) (pe_glob (v := .ref T.o_WORDS) (by rfl) T.g_WORDS rfl) rfl)
            (pw_or1 (pt_not (pt_val (pe_call (ok_num T) hr1 (by rfl) T.g_is_numeral T.F_is_numeral.kp (b_is_numeral T) .nil pass0 (pa_cons (pe_slice sl_str (pv 4) (po_some pe_int) po_none) pa_nil)))))))
          (pss_one (ps_raise rfl (takes_of rfl rfl rfl rfl) (pmk_oex T.oex_BadStep T.i_BadStep_init T.t_BadStep_init (ok_badI T) hr2 (b_BadStep_init T) .nil pass0 (by rfl) T.g_BadStep (pa_cons (pv 3) pa_nil)))) pss_nil)
        (pss_cons (ps_par (i := 5) (j := 6) (by rfl) sc_steps_of.nd rfl rfl (by decide) rfl rfl (pa_cons (pe_ix ix_W (pe_glob (v := .ref T.o_WORDS) (by rfl) T.g_WORDS rfl) (pe_ix ix_str (pv 4) pe_int (fun _ _ => rfl)) (fun _ _ => rfl))
            (pa_cons (pe_callTy call_int_str (by rfl) T.n_int (by decide +kernel) (pa_cons (pe_slice sl_str (pv 4) (po_some pe_int) po_none) pa_nil)) pa_nil)) (by rfl))
        (pss_one (ps_if (pt_cmpR op_in_seq (pv 5) (pe_tup (pa_cons pe_str (pa_cons pe_str pa_nil))) rfl)
          (pss_one (ps_expr (pe_bm PySem.F.plainAttrs_list PySem.F.slot_list_append PySem.F.type_list_append mt_append (pv 2) (pa_cons (pe_tup (pa_cons (pv 5) (pa_cons (pv 6) (pa_cons (pv 1) pa_nil)))) pa_nil))))
          (pss_one (ps_expr (pe_bm PySem.F.plainAttrs_list PySem.F.slot_list_append PySem.F.type_list_append mt_append (pv 2) (pa_cons (pe_tup (pa_cons (pv 5) (pa_cons (pv 6) pa_nil))) pa_nil)))))))))
      (pss_one (ps_ret (pv 2))))), ?_⟩
    have z0 : 0 ≤ sizeLine := Nat.zero_le _
    have two : 2 ≤ sizeLine := by decide
    have three : 3 ≤ sizeLine := by decide
    have spl : (sp.length == 0) = false := by decide +kernel
    have big : (1000 : Nat) < 10 ^ 50 := by decide +kernel
    have htl2 : t.length + 2 ≤ sizeLine := by rw [sizeLine_eq]; omega
    by_cases et : tl t = []
    · have e : t = "" := ext_tl (by rw [et]; decide +kernel)
      rcases hk with ⟨_, k⟩ | ⟨L, _, h, _⟩ | ⟨L, b, rest, h, _⟩
      · refine ⟨_, rfl, rfl, _, rfl, ?_⟩
        rw [decide_eq_true (by rw [e] : V.str t = V.str "")]
        refine iteT ⟨z0, fun p np => ?_⟩
        exact k _ p (same_new (Same.refl H) np) ⟨[], upd_same, rfl, fun i q x h => by simp at h⟩
      · exact absurd et h
      · exact absurd et h
    have ne : ¬ V.str t = V.str "" := fun q => et (by rw [V.str.inj q]; decide +kernel)
    refine ⟨_, rfl, rfl, _, rfl, ?_⟩
    rw [decide_eq_false ne]
    refine iteF ⟨z0, fun R nR => ?_⟩
    refine ⟨_, rfl, ⟨_, rfl⟩, t, sp, rfl, rfl, spl, htl2, fun W nW => ⟨W, (Txt.split t sp).map V.str, rfl, SqL.of upd_same, ?_⟩⟩
    -- what both cases share
    obtain ⟨L, hG, hL, hcase⟩ : ∃ L, Good L ∧ L.length ≤ 1000 ∧ ((Txt.split t sp = L.map word ∧ ∀ H' p, Same H H' → IsRun H' p L it → Q (.ref p) H') ∨
        ∃ b rest, Txt.split t sp = L.map word ++ b :: rest ∧ wordOk (tl b) = false ∧ b.length ≤ 100 ∧ ∀ H' d, Same H H' → H' d = some (.xd [(("index" : Str), .int (L.length : Int))]) → E (.ref T.c_BadStep) (some d) H') := by
      rcases hk with ⟨h, _⟩ | ⟨L, _, _, g, l, e, k⟩ | ⟨L, b, rest, _, g, l, e, hb, bl, k⟩
      · exact absurd h et
      · exact ⟨L, g, l, .inl ⟨e, k⟩⟩
      · exact ⟨L, g, l, .inr ⟨b, rest, e, hb, bl, k⟩⟩
    refine for_it walk_enum (fun i σ H' => i ≤ L.length ∧ H' W = some (.lst ((Txt.split t sp).map V.str)) ∧ Same H H' ∧ IsRun H' R (L.take i) it ∧ R ≠ W ∧ ∃ v3 v4 v5 v6, σ = [some (.str t), some (.str it), some (.ref R), v3, v4, v5, v6])
      ⟨Nat.zero_le _, upd_same, same_new (same_new (Same.refl H) nR) nW, ⟨[], kp nW upd_same, rfl, fun i q x h => by simp at h⟩, (fun e => by rw [← e, upd_same] at nW; cases nW), none, none, none, none, rfl⟩ (fun i σ H' _ z => SqL.of z.2.1) ?_ ?_
    · rintro i x σ H1 H' hi ⟨hiL, hW, sm, run, hRW, v3, v4, v5, v6, rfl⟩ ⟨Tp, x1, y, rfl, nT, rfl, e1, e2⟩
      cases e1
      have e2 : ((Txt.split t sp).map V.str)[i]? = some y := e2
      rw [List.getElem?_map] at e2
      obtain ⟨wd, hw, rfl⟩ : ∃ wd, (Txt.split t sp)[i]? = some wd ∧ y = V.str wd := by
        cases q : (Txt.split t sp)[i]? with
        | none =>
          rw [q] at e2
          cases e2
        | some wd =>
          rw [q] at e2
          exact ⟨wd, rfl, (Option.some.inj e2).symm⟩
      have smT := same_new (o := .tup [.int ((i : Nat) : Int), .str wd]) sm nT
      have s1 := same_new (o := .tup [.int ((i : Nat) : Int), .str wd]) (Same.refl H1) nT
      refine ⟨Tp, _, rfl, SqT.of upd_same, rfl, _, _, rfl, _, _, rfl, rfl, ?_⟩
      by_cases hlt : i < L.length
      · -- a good word
        have hwd : wd = word L[i] := by
          have e : (L.map word)[i]? = some (word L[i]) := by rw [List.getElem?_map, List.getElem?_eq_getElem hlt] <;> rfl
          rcases hcase with ⟨q, _⟩ | ⟨b, rest, q, _⟩
          · rw [q, e] at hw
            exact (Option.some.inj hw).symm
          · rw [q, List.getElem?_append_left (by rw [List.length_map]; exact hlt), e] at hw
            exact (Option.some.inj hw).symm
        obtain ⟨k, n, hx⟩ : ∃ k n, L[i] = (k, n) := ⟨L[i].1, L[i].2, rfl⟩
        have hLi : L[i]? = some (k, n) := by rw [List.getElem?_eq_getElem hlt, hx]
        obtain ⟨g1, g2⟩ := hG _ (List.mem_of_getElem? hLi)
        rw [hx] at hwd
        have etw : tl wd = k.sg :: numL n := by rw [hwd] <;> rfl
        have hwl32 : wd.length ≤ 32 := by rw [len_tl, etw]; exact word_len g2
        have hwl : wd.length ≤ sizeLine := by rw [sizeLine_eq]; omega
        have ex : (⟨(numL n).toArray⟩ : Str) = Str.ofString (toString ((n : Nat) : Int)) := ext_tl (by rw [tl_num])
        refine ⟨_, rfl, 1, rfl, wd, rfl, hwl, _, T.o_WORDS, WL, rfl, rfl, wdct T, _, rfl, ?_⟩
        rw [cut_one etw, look_sg]
        refine iteF ?_
        refine ⟨_, rfl, 1, rfl, wd, rfl, hwl, _, rfl, Nat.le_trans (cutS_length wd _ _) (by omega), fun H2 s2 => ⟨_, rfl, ?_⟩⟩
        rw [cut_rest etw, tl_mk, numOk_num g1 g2]
        refine iteF ?_
        refine ⟨_, rfl, wd, 0, k.sg, rfl, rfl, hwl, ?_, _, T.o_WORDS, WL, k.nm, rfl, rfl, wdct T, look_sg k, _, rfl, 1, rfl, wd, rfl, hwl, _, (n : Int), rfl, ?_, ?_, _, _, rfl, ?_⟩
        · have q := atI_nat (xs := tl wd) (j := 0) (v := k.sg) (by rw [etw] <;> rfl)
          exact q
        · rw [cut_rest etw, ex]
          exact int_num (by have := numL_len31 (n := n) g2; omega)
        · rw [cut_rest etw, ex, len_tl, tl_num]
          have := numL_len31 (n := n) g2
          omega
        have sm2 := smT.trans s2
        refine ⟨_, rfl, two, fun Tq nTq => ⟨Tq, _, rfl, .inr (SqT.of upd_same), rfl, rfl, _, rfl, ?_⟩⟩
        rw [if_neg Bool.false_ne_true, in_two]
        obtain ⟨qs, r1, r2, r3⟩ := run
        have ltk : (L.take i).length = i := by rw [List.length_take]; omega
        rw [ltk] at r2
        have s3 := (s1.trans s2).trans (same_new (o := .tup [.str "read", .str "write"]) (Same.refl H2) nTq)
        have stepE : ∀ (q : Addr) (H3 : Hp), Same H1 H3 → Same H H3 → H3 q = none → IsRun (upd (upd H3 q (.tup (stepV it (k, n)))) R (.lst (qs.map V.ref ++ [V.ref q]))) R (L.take (i + 1)) it := by
          intro q H3 sA sB nq
          refine ⟨qs ++ [q], ?_, ?_, ?_⟩
          · rw [upd_same, List.map_append]
            rfl
          · rw [List.length_append, r2, List.length_take]
            show i + 1 = _
            omega
          · intro j q' x' a1 a2
            have hR3 : H3 R = some (.lst (qs.map V.ref)) := sA _ _ r1
            by_cases hj : j < qs.length
            · rw [List.getElem?_append_left hj] at a1
              have a3 : (L.take i)[j]? = some x' := by
                rw [List.getElem?_take_of_lt (by omega)] at a2 ⊢
                exact a2
              have z := sA _ _ (r3 j q' x' a1 a3)
              rw [upd_ne (fun e => by rw [e, hR3] at z; cases z), upd_ne (ne_of_none z nq)]
              exact z
            · have hjl : j < (L.take (i + 1)).length := (List.getElem?_eq_some_iff.mp a2).1
              rw [List.length_take] at hjl
              have ej : j = i := by omega
              subst ej
              rw [List.getElem?_append_right (by omega), r2, Nat.sub_self] at a1
              cases a1
              rw [List.getElem?_take_of_lt (by omega), hLi] at a2
              cases a2
              rw [upd_ne (fun e => by rw [e, hR3] at nq; cases nq), upd_same]
        have fin : ∀ (q : Addr) (H3 : Hp) (v3 v4 v5 v6 : Option V), Same H1 H3 → Same H H3 → H3 q = none →
            (i + 1 ≤ L.length ∧ (upd (upd H3 q (.tup (stepV it (k, n)))) R (.lst (qs.map V.ref ++ [V.ref q]))) W = some (.lst ((Txt.split t sp).map V.str)) ∧ Same H (upd (upd H3 q (.tup (stepV it (k, n)))) R (.lst (qs.map V.ref ++ [V.ref q]))) ∧
              IsRun (upd (upd H3 q (.tup (stepV it (k, n)))) R (.lst (qs.map V.ref ++ [V.ref q]))) R (L.take (i + 1)) it ∧ R ≠ W ∧ ∃ u3 u4 u5 u6, [some (.str t), some (.str it), some (.ref R), v3, v4, v5, v6] = [some (.str t), some (.str it), some (.ref R), u3, u4, u5, u6]) := by
          intro q H3 v3 v4 v5 v6 sA sB nq
          refine ⟨by omega, ?_, ?_, stepE q H3 sA sB nq, hRW, _, _, _, _, rfl⟩
          · rw [upd_ne hRW.symm]
            exact kp nq (sA _ _ hW)
          · intro b o z
            rw [upd_ne (ne_of_none z nR)]
            exact kp nq (sB b o z)
        have lenR : ∀ {m : Nat}, m = qs.length → (qs.map V.ref).length < sizeLine := fun {m} _ => small1000 (by rw [List.length_map]; omega)
        cases hk : k.has with
        | true =>
          refine iteT ?_
          refine ⟨_, rfl, .inl ⟨rfl, _, SqL.of (s3 _ _ r1)⟩, _, rfl, _, rfl, _, rfl, three, fun q nq => ⟨R, _, _, rfl, rfl, kp nq (s3 _ _ r1), lenR rfl, ?_⟩⟩
          have ev : stepV it (k, n) = [.str k.nm, .int (n : Int), .str it] := by unfold stepV; rw [if_pos hk]
          have z := fin q _ (some (.int ((i : Nat) : Int))) (some (.str wd)) (some (.str k.nm)) (some (.int (n : Int))) s3 (sm.trans s3) nq
          rw [ev] at z
          exact z
        | false =>
          refine iteF ?_
          refine ⟨_, rfl, .inl ⟨rfl, _, SqL.of (s3 _ _ r1)⟩, _, rfl, _, rfl, two, fun q nq => ⟨R, _, _, rfl, rfl, kp nq (s3 _ _ r1), lenR rfl, ?_⟩⟩
          have ev : stepV it (k, n) = [.str k.nm, .int (n : Int)] := by unfold stepV; rw [if_neg (by show ¬ k.has = true; rw [hk]; exact Bool.false_ne_true)]
          have z := fin q _ (some (.int ((i : Nat) : Int))) (some (.str wd)) (some (.str k.nm)) (some (.int (n : Int))) s3 (sm.trans s3) nq
          rw [ev] at z
          exact z
      · -- the bad one
        have hieq : i = L.length := by omega
        rcases hcase with ⟨q, _⟩ | ⟨b, rest, q, hb, hbl, kE⟩
        · rw [q, List.getElem?_eq_none (by rw [List.length_map]; omega)] at hw
          cases hw
        have hwb : wd = b := by
          rw [q, List.getElem?_append_right (by rw [List.length_map]; omega), List.length_map, hieq, Nat.sub_self] at hw
          exact (Option.some.inj hw).symm
        subst hwb
        have hwl : wd.length ≤ sizeLine := by rw [sizeLine_eq]; omega
        have fin : ∀ (H2 : Hp), Same H H2 → ∀ a, H2 a = none → ∀ d, upd H2 a (exo a T.c_BadStep none) d = none → d ≠ a →
            E (.ref T.c_BadStep) (some d) (upd (del (upd (upd (upd H2 a (exo a T.c_BadStep none)) d (exd d [(("index" : Str), .int ((i : Nat) : Int))])) a (exo a T.c_BadStep (some d))) a) d (.xd [(("index" : Str), .int ((i : Nat) : Int))])) := by
          intro H2 s2 a ha d hd hne
          rw [raise_heap ha]
          rw [upd_ne hne] at hd
          subst hieq
          exact kE _ d (same_new s2 hd) upd_same
        have rais : ∀ (H2 : Hp) (σ2 : L2.St), Same H H2 → σ2[3]? = some (some (.int ((i : Nat) : Int))) → tMkO T.c_BadStep (spBadI T.c_BadStep "index") [] (tCons (tVar 3) tNil) σ2 H2 (fun cls d H' => E cls d H') := by
          intro H2 σ2 s2 h3
          refine ⟨_, h3, by show 1 ≤ 1000; decide, fun a ha => ⟨a, i, rfl, upd_same, Nat.lt_of_le_of_lt (by omega : i ≤ 1000) big, fun d hd hne => ⟨rfl, d, [(("index" : Str), .int ((i : Nat) : Int))], upd_same, ?_, ?_, ?_⟩⟩⟩
          · rw [upd_ne hne, upd_same]
          · rw [upd_ne hne] at hd
            exact hd
          · exact fin H2 s2 a ha d hd hne
        refine ⟨_, rfl, 1, rfl, wd, rfl, hwl, _, T.o_WORDS, WL, rfl, rfl, wdct T, _, rfl, ?_⟩
        cases hq : tl wd with
        | nil =>
          rw [cut_nil hq, look_nil]
          refine iteT ?_
          refine iteT ?_
          exact rais _ _ smT rfl
        | cons c d =>
          rw [cut_one hq, look_isSome]
          rw [hq] at hb
          have hb' : (sgOk c && numOk d) = false := hb
          cases hs : sgOk c with
          | false =>
            refine iteT ?_
            refine iteT ?_
            exact rais _ _ smT rfl
          | true =>
            refine iteF ?_
            rw [hs, Bool.true_and] at hb'
            refine ⟨_, rfl, 1, rfl, wd, rfl, hwl, _, rfl, Nat.le_trans (cutS_length wd _ _) (by omega), fun H2 s2 => ⟨_, rfl, ?_⟩⟩
            rw [cut_rest hq, tl_mk, hb']
            refine iteT ?_
            exact rais _ _ (smT.trans s2) rfl
    · rintro σ H' ⟨hiL, hW, sm, run, hRW, v3, v4, v5, v6, rfl⟩
      refine ⟨_, rfl, ?_⟩
      rcases hcase with ⟨e, k⟩ | ⟨b, rest, e, _⟩
      · rw [e, List.length_map, List.length_map, List.take_length] at run
        exact k H' R sm run
      · rw [e] at hiL
        simp at hiL
        omega
end
end K27

/-! sorted(xs, key=len), lists, any number of them. -/
namespace SKL
open PySem PyProof.Rows Srt SrtO
section
variable {α β : Type}
abbrev ltk (p q : Int × α) : Bool := decide (p.1 < q.1)
def ins (x : Int × α) : List (Int × α) → List (Int × α)
  | [] => [x]
  | y :: r => if x.1 ≤ y.1 then x :: y :: r else y :: ins x r
/-- stably by the key -/
def byK : List (Int × α) → List (Int × α)
  | [] => []
  | x :: r => ins x (byK r)
theorem swo_k : Swo (ltk (α := α)) := ⟨fun x y h => by
    have := of_decide_eq_true h
    exact decide_eq_false (by omega), fun x y z h1 h2 => by
    have a := of_decide_eq_false h1
    have b := of_decide_eq_false h2
    exact decide_eq_false (by omega)⟩
theorem ins_perm (x : Int × α) : ∀ l, (ins x l).Perm (x :: l)
  | [] => List.Perm.refl _
  | y :: r => by
    unfold ins
    split
    · exact List.Perm.refl _
    · exact ((ins_perm x r).cons y).trans (List.Perm.swap x y r)
theorem ins_srt (x : Int × α) : ∀ {l}, Srtd ltk l → Srtd ltk (ins x l)
  | [], _ => List.pairwise_singleton _ _
  | y :: r, h => by
    unfold ins
    obtain ⟨h1, h2⟩ := List.pairwise_cons.mp h
    split
    · rename_i c
      refine List.pairwise_cons.mpr ⟨fun z hz => ?_, h⟩
      rcases List.mem_cons.mp hz with e | hz
      · rw [e]; exact decide_eq_false (by omega)
      · have := of_decide_eq_false (h1 z hz)
        exact decide_eq_false (by omega)
    · rename_i c
      refine List.pairwise_cons.mpr ⟨fun z hz => ?_, ins_srt x h2⟩
      rcases List.mem_cons.mp ((ins_perm x r).mem_iff.mp hz) with e | hz
      · rw [e]; exact decide_eq_false (by omega)
      · exact h1 z hz
theorem ins_cls (x z : Int × α) : ∀ l, (ins x l).filter (eqv ltk z) = (x :: l).filter (eqv ltk z)
  | [] => rfl
  | y :: r => by
    unfold ins
    split
    · rfl
    · rename_i c
      rw [List.filter_cons, ins_cls x z r, List.filter_cons, List.filter_cons, List.filter_cons]
      by_cases a : eqv ltk z x = true
      · have ny : eqv ltk z y = false := by
          obtain ⟨a1, a2⟩ := eqv_iff.mp a
          have a1 := of_decide_eq_false a1
          have a2 := of_decide_eq_false a2
          cases e : eqv ltk z y with
          | false => rfl
          | true =>
            obtain ⟨b1, b2⟩ := eqv_iff.mp e
            have b1 := of_decide_eq_false b1
            have b2 := of_decide_eq_false b2
            omega
        simp [a, ny]
      · rw [if_neg a]
        split <;> rfl
theorem byK_srt : ∀ l : List (Int × α), Srtd ltk (byK l)
  | [] => List.Pairwise.nil
  | x :: r => ins_srt x (byK_srt r)
theorem byK_stb : ∀ l : List (Int × α), Stb ltk (byK l) l
  | [] => Stb.refl _
  | x :: r => ⟨(ins_perm x (byK r)).trans ((byK_stb r).perm.cons x), fun z => by
      show (ins x (byK r)).filter _ = _
      rw [ins_cls, List.filter_cons, (byK_stb r).cls z, List.filter_cons]⟩
theorem byK_uniq {l m : List (Int × α)} (h1 : Srtd ltk l) (h2 : Stb ltk l m) : l = byK m :=
  stb_uniq swo_k h1 (byK_srt m) (h2.trans ⟨(byK_stb m).perm.symm, fun x => ((byK_stb m).cls x).symm⟩)
theorem ins_map (f : α → β) (x : Int × α) : ∀ l, (ins x l).map (fun p => (p.1, f p.2)) = ins (x.1, f x.2) (l.map fun p => (p.1, f p.2))
  | [] => rfl
  | y :: r => by
    unfold ins
    rw [List.map_cons]
    show _ = if x.1 ≤ y.1 then _ else _
    split
    · rfl
    · rw [List.map_cons, ins_map f x r]
theorem byK_map (f : α → β) : ∀ l : List (Int × α), (byK l).map (fun p => (p.1, f p.2)) = byK (l.map fun p => (p.1, f p.2))
  | [] => rfl
  | x :: r => by
    show (ins x (byK r)).map _ = ins (x.1, f x.2) (byK (r.map fun p => (p.1, f p.2)))
    rw [ins_map, byK_map f r]
end
section
variable {prog : Program} {w : World} {A : Around} {E : Value → Shared → Prop} {s : Shared}
theorem zip_iv {ks : List Value} {kz : List Int} (hk : IntsAre ks kz) (vs : List Value) : (ks.zip vs).map (fun p : Keyed => (iv p.1, p.2)) = kz.zip vs := by
  rw [← iv_ints hk, List.zip_map_left]
  exact List.map_congr_left fun ⟨x, y⟩ _ => rfl
/-- the list behind the keys -/
theorem out_k {keys : Array Value} {vs : List Value} {kz : List Int} (hk : IntsAre keys.toList kz) {xs : Array Keyed} (h1 : Srtd (lt2 ltIv) xs.toList) (h2 : Stb (lt2 ltIv) xs.toList (keys.zip vs.toArray).toList) :
    (xs.map (·.2)).toList = (byK (kz.zip vs)).map (·.2) := by
  rw [ksk_zip] at h2
  have e1 : Srtd (ltk (α := Value)) (xs.toList.map fun p : Keyed => (iv p.1, p.2)) := srtd_map (f := fun p : Keyed => (iv p.1, p.2)) (lt := ltk) h1
  have e2 : Stb (ltk (α := Value)) (xs.toList.map fun p : Keyed => (iv p.1, p.2)) ((keys.toList.zip vs).map fun p : Keyed => (iv p.1, p.2)) := Stb.map (lt := ltk) swo_k (fun p : Keyed => (iv p.1, p.2)) h2
  rw [zip_iv hk] at e2
  have e3 := byK_uniq e1 e2
  rw [← e3, Array.toList_map, List.map_map]
  rfl
theorem sort_len {a : Addr} {vs : List Value} {n : Nat} {kz : List Int} {R : PySem.Fin → Shared → Prop} (ho : s.heap.get? a = some (seqObj "list" vs.toArray n)) (hz : vs.length ≤ sizeLine) (hlen : kz.length = vs.length)
    (hk : ∀ (i : Nat) (v : Value), vs[i]? = some v → ∃ (p : Addr) (its : Array Value), v = .ref p ∧ p ≠ a ∧ s.heap.IsList p its ∧ kz[i]? = some (its.size : Int) ∧ (its.size : Int) < 2 ^ 63)
    (h : ∀ (h' : Heap) (tk e : Nat), (∀ b o, b ≠ a → s.heap.get? b = some o → h'.get? b = some o) → h'.get? a = some (seqObj "list" ((byK (kz.zip vs)).map (·.2)).toArray e) → R (.done (.ret .none)) { s with heap := h', toks := tk }) :
    wpAny (model prog w) A (ksk_tree a (.builtin "len") false) R E s := by
  have ha : a < s.heap.objs.size := Heap.lt_size ho
  obtain ⟨e1, ho1⟩ : ∃ e1, (s.heap.update a (Obj.mapSeq fun _ => (#[] : Array Value))).get? a = some (seqObj "list" #[] e1) := ⟨_, get?_update_seq ho fun _ => #[]⟩
  unfold ksk_tree
  refine wpAny_bind (listItems_at ho rfl ?_)
  refine wpAny_bind (listUpdate_at ho rfl ?_ (by rw [List.size_toArray]; exact hz) (Nat.zero_le _))
  refine wpAny_bind (seqEpoch_at ho1 rfl ?_)
  refine wpAny_bind (wpAny_newTuple ?_ (by show vs.length ≤ _; exact hz))
  refine wpAny_bind (wpAny_newList ?_ (Nat.zero_le _))
  refine wpAny_holding ?_
  have hkS : ((s.heap.update a (Obj.mapSeq fun _ => (#[] : Array Value))).push (seqObj "tuple" vs.toArray 0)).objs.size = s.heap.objs.size + 1 := by rw [size_push', Heap.size_update]
  rw [hkS]
  show wpAny (model prog w) A (ksk_rest a (.builtin "len") false vs.toArray e1 (.ref (s.heap.objs.size + 1))) R E { s with heap := ((s.heap.update a (Obj.mapSeq fun _ => (#[] : Array Value))).push (seqObj "tuple" vs.toArray 0)).push (seqObj "list" #[] 0) }
  have hka : s.heap.objs.size + 1 ≠ a := Nat.ne_of_gt (Nat.lt_succ_of_lt ha)
  have k0 : ∀ b o, b ≠ a → s.heap.get? b = some o → (((s.heap.update a (Obj.mapSeq fun _ => (#[] : Array Value))).push (seqObj "tuple" vs.toArray 0)).push (seqObj "list" #[] 0)).get? b = some o := fun b o nb q =>
    Heap.get?_push_of_some _ (Heap.get?_push_of_some _ ((Heap.get?_update_ne _ _ _ _ nb).trans q))
  have a0 : (((s.heap.update a (Obj.mapSeq fun _ => (#[] : Array Value))).push (seqObj "tuple" vs.toArray 0)).push (seqObj "list" #[] 0)).get? a = some (seqObj "list" #[] e1) := Heap.get?_push_of_some _ (Heap.get?_push_of_some _ ho1)
  have n0 : (((s.heap.update a (Obj.mapSeq fun _ => (#[] : Array Value))).push (seqObj "tuple" vs.toArray 0)).push (seqObj "list" #[] 0)).get? (s.heap.objs.size + 1) = some (seqObj "list" #[] 0) := by
    rw [← hkS]; exact Heap.get?_push_size _ rfl
  unfold ksk_rest
  refine wpAny_bind (wpAny_rule ?_)
  first
    | rw [List.forIn_toArray]
    | (rw [← Array.forIn_toList]; simp only [List.toList_toArray])
    | rw [← Array.forIn_toList]
  refine wpAny_bind (ksk_fold (fun i s' => ∃ h' tk kA e, s' = { s with heap := h', toks := tk } ∧ (∀ b o, b ≠ a → s.heap.get? b = some o → h'.get? b = some o) ∧ h'.get? a = some (seqObj "list" #[] e1) ∧ h'.get? (s.heap.objs.size + 1) = some (seqObj "list" kA e) ∧ IntsAre kA.toList (kz.take i)) vs 0 _
    ⟨_, s.toks, #[], 0, rfl, k0, a0, n0, by simpa using IntsAre.nil⟩ ?step ?done)
  case step =>
    rintro j x s' hx ⟨h', tk, kA, e, rfl, k1, a1, n1, hkj⟩
    simp only [Nat.zero_add] at hkj ⊢
    have hj : j < vs.length := (List.getElem?_eq_some_iff.mp hx).1
    obtain ⟨p, its, rfl, npa, hl, hkz, h63⟩ := hk j x hx
    have hzA : kA.size ≤ vs.length := by
      have h1 := hkj.length
      rw [Array.length_toList, List.length_take] at h1
      omega
    have hl' : h'.IsList p its := by
      obtain ⟨o, q1, q2, q3⟩ := hl
      exact ⟨o, k1 _ _ npa q1, q2, q3⟩
    refine wpAny_bind (wpAny_attempt (Calls.call_len_list (s := { s with heap := h', toks := tk }) hl' h63 ?_))
    try dsimp only
    obtain ⟨c2, hc2⟩ : ∃ c2, (h'.update (s.heap.objs.size + 1) (Obj.mapSeq (·.push (.int its.size (tk + 1))))).get? (s.heap.objs.size + 1) = some (seqObj "list" (kA.push (.int its.size (tk + 1))) c2) := ⟨_, get?_update_seq n1 (·.push (.int its.size (tk + 1)))⟩
    have ek : kz.take (j + 1) = kz.take j ++ [(its.size : Int)] := by rw [List.take_add_one, hkz]; simp
    have ea : (kA.push (Value.int its.size (tk + 1))).toList = kA.toList ++ [Value.int its.size (tk + 1)] := by simp
    refine wpAny_bind (listUpdate_at n1 rfl ?_ (Nat.le_trans hzA hz) (Nat.le_trans (Nat.le_of_eq (Array.size_push ..)) (by omega)))
    refine wpAny_pure ⟨rfl, _, _, kA.push (.int its.size (tk + 1)), c2, rfl, fun b o nb q => ?_, ?_, hc2, by rw [ea, ek]; exact ksk_snoc hkj⟩
    · have nk : b ≠ s.heap.objs.size + 1 := Nat.ne_of_lt (Nat.lt_succ_of_lt (Heap.lt_size q))
      exact (Heap.get?_update_ne _ _ _ _ nk).trans (k1 b o nb q)
    · exact (Heap.get?_update_ne _ _ _ _ (Ne.symm hka)).trans a1
  case done =>
    rintro s' ⟨h', tk, kA, e, rfl, k1, a1, n1, hkj⟩
    have hk' : IntsAre kA.toList kz := by
      have e3 : kz.take (0 + vs.length) = kz := List.take_of_length_le (by omega)
      rw [e3] at hkj
      exact hkj
    have hsz : kA.size = vs.length := by
      have h1 := hk'.length
      rw [Array.length_toList] at h1
      omega
    have hzs : (kA.zip vs.toArray).size = vs.length := by rw [Array.size_zip, hsz, List.size_toArray, Nat.min_self]
    try dsimp only
    refine wpAny_bind (listItems_at n1 rfl ?_)
    -- the end
    have tail : ∀ st : SortSt, Srtd (lt2 ltIv) (arrOf st).toList → Stb (lt2 ltIv) (arrOf st).toList (kA.zip vs.toArray).toList → failedOf st = none → wpAny (model prog w) A (ksk_tail a false e1 (.ref (s.heap.objs.size + 1)) st) R E { s with heap := h', toks := tk } := fun st h1 h2 hfl => by
      have hsz2 : (arrOf st).size = vs.length := by
        have z := h2.len
        rw [Array.length_toList, Array.length_toList, hzs] at z
        exact z
      have a2 : (h'.update (s.heap.objs.size + 1) (Obj.mapSeq fun _ => (#[] : Array Value))).get? a = some (seqObj "list" #[] e1) := (Heap.get?_update_ne _ _ _ _ (Ne.symm hka)).trans a1
      obtain ⟨c2, hc2⟩ : ∃ c2, ((h'.update (s.heap.objs.size + 1) (Obj.mapSeq fun _ => (#[] : Array Value))).update a (Obj.mapSeq fun _ => (arrOf st).map (·.2))).get? a = some (seqObj "list" ((arrOf st).map (·.2)) c2) :=
        ⟨_, get?_update_seq a2 fun _ => (arrOf st).map (·.2)⟩
      unfold ksk_tail
      try dsimp only
      refine wpAny_bind (listUpdate_at n1 rfl ?_ (by rw [hsz]; exact hz) (Nat.zero_le _))
      refine wpAny_bind (wpAny_letGo ?_)
      refine wpAny_bind (seqEpoch_at a2 rfl ?_)
      refine wpAny_bind (listUpdate_at a2 rfl ?_ (Nat.zero_le _) (by simp only [Bool.false_eq_true, if_false, Array.size_map]; omega))
      rw [hfl]
      simp only [bne_self_eq_false, Bool.false_eq_true, if_false]
      refine wpAny_pure (h _ _ c2 (fun b o nb q => ?_) ?_)
      · have nk : b ≠ s.heap.objs.size + 1 := Nat.ne_of_lt (Nat.lt_succ_of_lt (Heap.lt_size q))
        exact (Heap.get?_update_ne _ _ _ _ nb).trans ((Heap.get?_update_ne _ _ _ _ nk).trans (k1 b o nb q))
      · rw [← out_k hk' h1 h2, Array.toArray_toList]
        exact hc2
    unfold ksk_end
    simp only [Bool.false_eq_true, if_false]
    by_cases h2 : vs.toArray.size < 2
    · rw [if_pos h2, if_pos h2]
      refine wpAny_bind (wpAny_pure ?_)
      rw [StateT.run_pure]
      refine wpAny_bind (wpAny_pure ?_)
      try dsimp only
      refine tail (SortSt.mk' general' (kA.zip vs.toArray) #[] 7 none) ?_ (Stb.refl _) rfl
      show Srtd (lt2 ltIv) (kA.zip vs.toArray).toList
      rw [List.size_toArray] at h2
      have hl3 : (kA.zip vs.toArray).toList.length < 2 := by rw [Array.length_toList, hzs]; exact h2
      generalize (kA.zip vs.toArray).toList = l at hl3
      match l, hl3 with
      | [], _ => exact List.Pairwise.nil
      | [v], _ => exact List.pairwise_singleton _ _
      | _ :: _ :: l, h => exact absurd h (by rw [List.length_cons, List.length_cons]; omega)
    · rw [if_neg h2, if_neg h2]
      rw [List.size_toArray] at h2
      rw [ksk_kind hk' (by rw [hsz]; omega)]
      refine wpAny_bind (wpAny_pure ?_)
      refine wpAny_bind (wpAny_mono (wpS_sortO (lt := lt2 ltIv) (st0 := SortSt.mk' oneType' (kA.zip vs.toArray) #[] 7 none)
        (Q := fun _ st' => Srtd (lt2 ltIv) (arrOf st').toList ∧ Stb (lt2 ltIv) (arrOf st').toList (kA.zip vs.toArray).toList ∧ failedOf st' = none) (swo2 swo_int) (int_cmp hk') rfl (fun p hm => ?_) rfl rfl fun st' b1 b2 b3 => ⟨b1, b2, b3⟩) ?_ fun _ _ e => e)
      · have hm' : p ∈ (kA.zip vs.toArray).toList := hm
        rw [ksk_zip] at hm'
        obtain ⟨x, y⟩ := p
        exact (List.of_mem_zip hm').1
      rintro ⟨⟨⟩, st'⟩ s' ⟨rfl, b1, b2, b3⟩
      try dsimp only
      exact tail st' b1 b2 b3
theorem sorted_len {l : Addr} {vs : List Value} {kz : List Int} {Q : Value → Shared → Prop} (hl : s.heap.IsList l vs.toArray) (hz : vs.length ≤ sizeLine) (hlen : kz.length = vs.length)
    (hk : ∀ (i : Nat) (v : Value), vs[i]? = some v → ∃ (p : Addr) (its : Array Value), v = .ref p ∧ s.heap.IsList p its ∧ kz[i]? = some (its.size : Int) ∧ (its.size : Int) < 2 ^ 63)
    (h : ∀ (h' : Heap) (tk e : Nat), (∀ b o, s.heap.get? b = some o → h'.get? b = some o) → h'.get? (s.heap.objs.size + 1) = some (seqObj "list" ((byK (kz.zip vs)).map (·.2)).toArray e) → Q (.ref (s.heap.objs.size + 1)) { s with heap := h', toks := tk }) :
    wpAny (model prog w) A (call (.builtin "sorted") [.ref l] [(Str.ofString "key", .builtin "len")]) Q E s := by
  refine call_function_entry_kw kind_sorted plain_sorted entry_sorted (ksk_s1 _ _) ?_
  unfold Builtin.«sorted»
  refine wpAny_bind (m := checkCount "sorted" 1 1 _) (wpAny_pure ?_)
  refine wpAny_bind (collect_list hl ?_ hz)
  refine wpAny_bind (wpAny_newList ?_ hz)
  have hsz : ((s.heap.push (seqObj "list" #[] 0)).update s.heap.objs.size (Obj.mapSeq (· ++ vs.toArray))).objs.size = s.heap.objs.size + 1 := by
    rw [Heap.size_update, size_push']
  have hoL : (((s.heap.push (seqObj "list" #[] 0)).update s.heap.objs.size (Obj.mapSeq (· ++ vs.toArray))).push (seqObj "list" vs.toArray 0)).get? (s.heap.objs.size + 1) = some (seqObj "list" vs.toArray 0) := by
    rw [← hsz]; exact Heap.get?_push_size _ rfl
  have keep : ∀ b o, s.heap.get? b = some o → b ≠ s.heap.objs.size + 1 ∧ (((s.heap.push (seqObj "list" #[] 0)).update s.heap.objs.size (Obj.mapSeq (· ++ vs.toArray))).push (seqObj "list" vs.toArray 0)).get? b = some o := fun b o q => by
    have hlt : b < s.heap.objs.size := Heap.lt_size q
    refine ⟨Nat.ne_of_lt (Nat.lt_succ_of_lt hlt), Heap.get?_push_of_some _ ?_⟩
    rw [Heap.get?_update_ne _ _ _ _ (Nat.ne_of_lt hlt)]
    exact Heap.get?_push_of_some _ q
  show wpAny _ _ _ _ _ { s with heap := ((s.heap.push (seqObj "list" #[] 0)).update s.heap.objs.size (Obj.mapSeq (· ++ vs.toArray))).push (seqObj "list" vs.toArray 0) }
  rw [hsz]
  refine wpAny_bind (wpAny_holding (wpAny_call_entry_kw slot_list_sort ⟨_, hoL, rfl⟩ entry_list_sort ?_ (ksk_l1 _ _)))
  rw [ksk_t4]
  refine sort_len hoL hz hlen (fun i v hv => ?_) fun h' tk e k1 a1 => ⟨_, rfl, ?_⟩
  · obtain ⟨p, its, rfl, ⟨o, q1, q2, q3⟩, q4, q5⟩ := hk i v hv
    exact ⟨p, its, rfl, (keep p o q1).1, ⟨o, (keep p o q1).2, q2, q3⟩, q4, q5⟩
  exact wpAny_pure ⟨_, rfl, h h' tk e (fun b o q => k1 b o (keep b o q).1 (keep b o q).2) a1⟩
end
end SKL
namespace L2
open PySem PySem.Spec PyProof.Rows
section
variable {X : Cx} {e : Expr} {t : TA} {p p2 pos kpos : Pos}
/-- sorted(e, key=len), a list of lists -/
def tSortLen (K : PySem.W.Frag) (t : TA) : TE := fun σ H Q => t σ H fun vs H1 => ∃ (a : Addr) (ps : List Addr) (ks : List Nat), vs = [V.ref a] ∧ SqL K H1 a (ps.map V.ref) ∧ ks.length = ps.length ∧
  (∀ (i : Nat) (q : Addr), ps[i]? = some q → ∃ ys : List V, SqL K H1 q ys ∧ ks[i]? = some ys.length) ∧
  ∀ q, H1 q = none → Q (.ref q) (upd H1 q (.lst (((SKL.byK ((ks.map fun n : Nat => (n : Int)).zip ps)).map (·.2)).map V.ref)))
theorem vals_ref : ∀ {ps : List Addr} {its : List Value}, Vals (ps.map V.ref) its → its = ps.map Value.ref
  | [], _, .nil => rfl
  | p :: ps, _, .cons r t => by
    cases (show _ = Value.ref p from r)
    rw [vals_ref t]; rfl
theorem ref_vals : ∀ ps : List Addr, Vals (ps.map V.ref) (ps.map Value.ref)
  | [] => .nil
  | p :: ps => .cons rfl (ref_vals ps)
theorem pe_sortedLen (hg : Gl X "sorted") (hm : X.mg "sorted" = none) (hg2 : Gl X "len") (hm2 : X.mg "len" = none) (ha : PA X [e] t)
    (he : backTo pos (starEach [e] X.env) = (false, eval e X.env) :: backTo pos (starEach [] X.env) := by rfl) (hpl : (backTo pos (starEach [e] X.env)).any (·.1) = false := by rfl)
    (hall : (backToKw pos (keywordEach [⟨some "key", .Name "len" p2, kpos⟩] X.env)).all (·.1.isSome) = true := by rfl) (hnone : (backToKw pos (keywordEach [⟨some "key", .Name "len" p2, kpos⟩] X.env)).any (·.1.isNone) = false := by rfl) :
    PE X (.Call (.Name "sorted" p) [e] [⟨some "key", .Name "len" p2, kpos⟩] pos) (tSortLen X.K t) := by
  refine ⟨fun pins s σ H Q I h => ?_⟩
  refine wpAny_Call_Name_kw (ld_blt I hg hm (u := .builtin "sorted") rfl ?_)
  refine PyProof.Rows.callWith_kw (thn (ha.run pos pins s σ H _ I h) fun us s1 ⟨vs, H1, I1, r1, q1⟩ => kwAll_cons (ld_blt I1 hg2 hm2 (u := .builtin "len") rfl (kwAll_nil ?_))) he hpl hall hnone
  obtain ⟨a, ps, ks, rfl, hs, hl, hk, q⟩ := q1
  obtain ⟨its, rv, pl, hz⟩ := I1.list hs
  obtain rfl := Vals.ref1 r1
  obtain rfl := vals_ref rv
  rw [List.length_map] at hz
  refine SKL.sorted_len (kz := ks.map fun n : Nat => (n : Int)) pl.isList (by rw [List.length_map]; exact hz) (by rw [List.length_map, List.length_map]; exact hl) (fun i v hv => ?_) fun h' tk ep k1 a1 => ?_
  · rw [List.getElem?_map] at hv
    cases e1 : ps[i]? with
    | none => rw [e1] at hv; cases hv
    | some q =>
      rw [e1] at hv
      cases hv
      obtain ⟨ys, hy, hk1⟩ := hk i q e1
      obtain ⟨its, rv2, pl2, hz2⟩ := I1.list hy
      have hn := line63
      have l2 := rv2.length
      refine ⟨q, its.toArray, rfl, pl2.isList, ?_, ?_⟩
      · rw [List.getElem?_map, hk1, List.size_toArray, ← l2]; rfl
      · rw [List.size_toArray, ← l2]; omega
  · have ez : (SKL.byK ((ks.map fun n : Nat => (n : Int)).zip (ps.map Value.ref))).map (·.2) = ((SKL.byK ((ks.map fun n : Nat => (n : Int)).zip ps)).map (·.2)).map Value.ref := by
      rw [List.zip_map_right, show (Prod.map id Value.ref : Int × Addr → Int × Value) = (fun p => (p.1, Value.ref p.2)) from rfl, ← SKL.byK_map, List.map_map, List.map_map]
      rfl
    rw [ez] at a1
    have hlen : ((((SKL.byK ((ks.map fun n : Nat => (n : Int)).zip ps)).map (·.2)).map V.ref)).length ≤ sizeLine := by
      rw [List.length_map, List.length_map, (SKL.byK_stb _).perm.length_eq, List.length_zip, List.length_map, hl, Nat.min_self]
      exact hz
    exact ⟨.ref _, upd H1 (s1.heap.objs.size + 1) (.lst _), I1.laid (t' := tk) (fun b o e => k1 b o e) (Nat.le_succ _) ⟨hlen, _, ep, ref_vals _, a1⟩, rfl, q _ (I1.hok.fresh (Nat.le_succ _))⟩
end
end L2

namespace K27
open PySem L2 SI CM BK OWN
section
variable {w : World} {K : PySem.W.Frag} {mg : Str → Option Value} {base : Heap} (T : Txt w K mg)
def spCell (K : PySem.W.Frag) : Sp := fun vs H Q _ => ∃ (a : Addr) (ns : List Int) (k : Nat), vs = [.ref a, .int (k : Int)] ∧ SqL K H a (ns.map V.int) ∧ ns.length ≤ 63 ∧ Q (.int (ns.getD k 0)) H
theorem ok_cell : FnOk PP w K mg base CX0 1 T.f_law_cell T.d_law_cell ["_law_script", "_law_k"] (spCell K) := by
  refine T.F_law_cell.ok sc_law_cell (fun vs H Q E h => ?_) (fun cdv A outer s H vs Q E hr h => ?_)
  · obtain ⟨a, ns, k, rfl, _⟩ := h
    rfl
  · obtain ⟨a, ns, i, rfl, hS, hlen, k⟩ := h
    refine ⟨_, pss_cons (ps_if (pt_cmpR op_lt (pv 1) (pe_callB call_len_seq (by rfl) T.n_len PySem.boot_len (pa_cons (pv 0) pa_nil)) (nomark _)) (pss_one (ps_ret (pe_ix ix_list (pv 0) (pv 1) (fun _ _ => rfl)))) pss_nil) (pss_one (ps_ret pe_int)), ?_⟩
    refine ⟨_, rfl, _, rfl, a, _, rfl, .inl hS, _, _, rfl, rfl, _, rfl, ?_⟩
    rw [List.length_map]
    by_cases h : (i : Int) < (ns.length : Int)
    · rw [decide_eq_true h]
      have hi : i < ns.length := by omega
      refine iteT ⟨_, rfl, _, rfl, a, _, _, .int (ns.getD i 0), rfl, rfl, hS, atI_nat (by rw [List.getElem?_map, List.getElem?_eq_getElem hi, List.getD_eq_getElem?_getD, List.getElem?_eq_getElem hi] <;> rfl), k⟩
    · rw [decide_eq_false h]
      have hi : ns.length ≤ i := by omega
      refine iteF ?_
      rw [List.getD_eq_getElem?_getD, List.getElem?_eq_none hi] at k
      exact k
/-- xs[i] of a list of ints -/
theorem ints_at {ds : List Int} {i : Nat} {x : V} (h : (ds.map V.int)[i]? = some x) : ∃ d, ds[i]? = some d ∧ x = V.int d := by
  rw [List.getElem?_map] at h
  cases q : ds[i]? with
  | none =>
    rw [q] at h
    cases h
  | some d =>
    rw [q] at h
    exact ⟨d, rfl, (Option.some.inj h).symm⟩
/-- the row's list, what is left of the cell, the mixed number -/
def rowS (c b : Int) : Nat → List Int × Int × Int
  | 0 => ([], c, (c * 48271 + 69621) % 2147483647)
  | i + 1 => if (10 : Int) ^ (18 : Int).toNat ≤ c then ((rowS c b i).1 ++ [(rowS c b i).2.1 % b], (rowS c b i).2.1 / b, (rowS c b i).2.2)
    else ((rowS c b i).1 ++ [((((rowS c b i).2.2 * 48271 + 11) % 2147483647 * 16807 + (i : Int)) % 2147483629 / 1009) % b], (rowS c b i).2.1, ((((rowS c b i).2.2 * 48271 + 11) % 2147483647) * 16807 + (i : Int)) % 2147483629)
def rowF (c : Int) (n : Nat) (b : Int) : List Int := (rowS c b n).1
theorem rowS_big {c b : Int} (i : Nat) (h : (10 : Int) ^ (18 : Int).toNat ≤ c) : rowS c b (i + 1) = ((rowS c b i).1 ++ [(rowS c b i).2.1 % b], (rowS c b i).2.1 / b, (rowS c b i).2.2) := if_pos h
theorem rowS_low {c b : Int} (i : Nat) (h : ¬ (10 : Int) ^ (18 : Int).toNat ≤ c) : rowS c b (i + 1) = ((rowS c b i).1 ++ [((((rowS c b i).2.2 * 48271 + 11) % 2147483647 * 16807 + (i : Int)) % 2147483629 / 1009) % b], (rowS c b i).2.1, ((((rowS c b i).2.2 * 48271 + 11) % 2147483647) * 16807 + (i : Int)) % 2147483629) := if_neg h
def spRowD : Sp := fun vs H Q _ => ∃ (c : Int) (n : Nat) (b : Int), vs = [.int c, .int (n : Int), .int b] ∧ 0 < b ∧ b < 1000 ∧ n ≤ 1000 ∧
  ∀ (H' : Hp) (p : Addr), Same H H' → H p = none → H' p = some (.lst ((rowF c n b).map V.int)) → (rowF c n b).length = n → (∀ d ∈ rowF c n b, 0 ≤ d ∧ d < b) → Q (.ref p) H'
def spRow : Sp := fun vs H Q _ => ∃ (c : Int) (n : Nat) (b : Int), vs = [.int c, .int (n : Int), .int b] ∧ 0 < b ∧ b < 1000 ∧ n ≤ 1000 ∧
  ∀ (H' : Hp) (p : Addr) (ds : List Int), Same H H' → H p = none → H' p = some (.lst (ds.map V.int)) → ds.length = n → (∀ d ∈ ds, 0 ≤ d ∧ d < b) → Q (.ref p) H'
theorem ok_rowD : FnOk PP w K mg base CX0 1 T.f_law_row T.d_law_row ["_law_cell_here", "_law_count", "_law_base"] spRowD := by
  refine T.F_law_row.ok sc_law_row (fun vs H Q E h => ?_) (fun cdv A outer s H vs Q E hr h => ?_)
  · obtain ⟨c, n, b, rfl, _⟩ := h
    rfl
  · obtain ⟨c, n, b, rfl, b0, b1, hn, k⟩ := h
    refine ⟨_, pss_cons (ps_set (i := 3) sc_law_row.nd rfl (.inl rfl) (pe_lst pa_nil))
 (pss_cons (ps_set (i := 4) sc_law_row.nd rfl (.inl rfl) (pv 0))
 (pss_cons (ps_set (i := 5) sc_law_row.nd rfl (.inl rfl) (pe_op op_mod (pe_callTy call_int1 (by rfl) T.n_int (by decide +kernel) (pa_cons (pe_op op_add (pe_op op_mul (pv 0) pe_int) pe_int) pa_nil)) pe_int))
 (pss_cons (ps_for PassesOwn.never rfl (pi_range1 rfl T.n_range (pa_cons (pv 1) pa_nil)) (pg_name (i := 6) sc_law_row.nd rfl (.inl rfl))
 (pss_one (ps_if (pt_cmpR op_ge (pv 0) (pe_op op_pow pe_int pe_int) (nomark _))
 (pss_cons (ps_expr (pe_bm PySem.F.plainAttrs_list PySem.F.slot_list_append PySem.F.type_list_append mt_append (pv 3) (pa_cons (pe_op op_mod (pe_callTy call_int1 (by rfl) T.n_int (by decide +kernel) (pa_cons (pv 4) pa_nil)) (pv 2)) pa_nil)))
 (pss_one (ps_set (i := 4) sc_law_row.nd rfl (.inl rfl) (pe_op op_fdiv (pv 4) (pv 2)))))
 (pss_cons (ps_set (i := 5) sc_law_row.nd rfl (.inl rfl) (pe_op op_mod (pe_callTy call_int1 (by rfl) T.n_int (by decide +kernel) (pa_cons (pe_op op_add (pe_op op_mul (pv 5) pe_int) pe_int) pa_nil)) pe_int))
 (pss_cons (ps_set (i := 5) sc_law_row.nd rfl (.inl rfl) (pe_op op_mod (pe_callTy call_int1 (by rfl) T.n_int (by decide +kernel) (pa_cons (pe_op op_add (pe_op op_mul (pv 5) pe_int) (pv 6)) pa_nil)) pe_int))
 (pss_one (ps_expr (pe_bm PySem.F.plainAttrs_list PySem.F.slot_list_append PySem.F.type_list_append mt_append (pv 3) (pa_cons (pe_op op_mod (pe_callTy call_int1 (by rfl) T.n_int (by decide +kernel) (pa_cons (pe_op op_fdiv (pv 5) pe_int) pa_nil)) (pv 2)) pa_nil)))))))))
 (pss_one (ps_ret (pv 3)))))), ?_⟩
    have m1 : (0 : Int) < 2147483647 := by decide
    have m2 : (0 : Int) < 2147483629 := by decide
    refine ⟨Nat.zero_le _, fun R nR => ⟨_, rfl, _, rfl, _, _, rfl, rfl, .inr ⟨by decide, by decide⟩, _, _, rfl, rfl, .inl ⟨_, rfl, _, _, rfl, rfl, m1, ?_⟩⟩⟩
    refine ⟨_, rfl, _, rfl, by omega, by omega, for_range (lo := 0) (n := n) (fun i σ H' => ∃ (ds : List Int) (v4 v5 : Int) (v6 : Option V), ds.length = i ∧ (∀ d ∈ ds, 0 ≤ d ∧ d < b) ∧ H' R = some (.lst (ds.map V.int)) ∧ Same H H' ∧ σ = [some (.int c), some (.int (n : Int)), some (.int b), some (.ref R), some (.int v4), some (.int v5), v6] ∧ (ds, v4, v5) = rowS c b i)
      ⟨[], c, _, _, rfl, (fun _ h => by cases h), upd_same, same_new (Same.refl H) nR, rfl, rfl⟩ ?_ ?_⟩
    · rintro i σ H' hi ⟨ds, v4, v5, v6, hl, hd, hR, sm, rfl, er⟩
      have stp : ∀ (d : Int), 0 ≤ d → d < b → (∀ x ∈ ds ++ [d], 0 ≤ x ∧ x < b) ∧ (upd H' R (.lst (ds.map V.int ++ [.int d]))) R = some (.lst ((ds ++ [d]).map V.int)) ∧ Same H (upd H' R (.lst (ds.map V.int ++ [.int d]))) := by
        intro d d0 d1
        refine ⟨fun x hx => ?_, ?_, fun bb o z => ?_⟩
        · rcases List.mem_append.mp hx with h | h
          · exact hd x h
          · rw [List.mem_singleton.mp h]
            exact ⟨d0, d1⟩
        · rw [upd_same, List.map_append]
          rfl
        · rw [upd_ne (ne_of_none z nR)]
          exact sm bb o z
      have lenR : (ds.map V.int).length < sizeLine := small1000 (by rw [List.length_map]; omega)
      have e0 := fun x : Int => Int.emod_nonneg x (Int.ne_of_gt b0)
      have e1 := fun x : Int => Int.emod_lt_of_pos x b0
      refine ⟨_, rfl, _, _, rfl, rfl, ⟨by decide, by decide, by decide⟩, _, _, rfl, rfl, _, rfl, ?_⟩
      refine ite2 (fun hb => ?_) (fun hb => ?_)
      · obtain ⟨s1, s2, s3⟩ := stp (v4 % b) (e0 _) (e1 _)
        exact ⟨_, rfl, .inl ⟨rfl, _, SqL.of hR⟩, _, rfl, .inl ⟨_, rfl, _, rfl, _, _, rfl, rfl, b0, R, _, _, rfl, rfl, hR, lenR, _, rfl, _, rfl, _, _, rfl, rfl, ⟨b0, by omega⟩, ds ++ [v4 % b], _, _, _, by simp [hl], s1, s2, s3, rfl, by rw [rowS_big i (of_decide_eq_true hb), ← er]⟩⟩
      · refine ⟨_, rfl, _, _, rfl, rfl, .inr ⟨by decide, by decide⟩, _, _, rfl, rfl, .inl ⟨_, rfl, _, _, rfl, rfl, m1, ?_⟩⟩
        refine ⟨_, rfl, _, _, rfl, rfl, .inr ⟨by decide, by decide⟩, _, rfl, _, _, rfl, rfl, .inl ⟨_, rfl, _, _, rfl, rfl, m2, ?_⟩⟩
        refine ⟨_, rfl, .inl ⟨rfl, _, SqL.of hR⟩, _, rfl, _, _, rfl, rfl, ⟨by decide, by decide⟩, .inl ⟨_, rfl, _, rfl, _, _, rfl, rfl, b0, R, _, _, rfl, rfl, hR, lenR, ?_⟩⟩
        exact ⟨ds ++ [_], _, _, _, by simp [hl], (stp _ (e0 _) (e1 _)).1, (stp _ (e0 _) (e1 _)).2.1, (stp _ (e0 _) (e1 _)).2.2, rfl, by rw [rowS_low i (fun z => hb (decide_eq_true z)), ← er]; simp only [Int.zero_add]⟩
    · rintro σ H' ⟨ds, v4, v5, v6, hl, hd, hR, sm, rfl, er⟩
      have ed : ds = rowF c n b := congrArg Prod.fst er
      rw [ed] at hl hd hR
      exact ⟨_, rfl, k H' R sm nR hR hl hd⟩
theorem ok_row : FnOk PP w K mg base CX0 1 T.f_law_row T.d_law_row ["_law_cell_here", "_law_count", "_law_base"] spRow :=
  (ok_rowD T).imp fun vs H Q E ⟨c, n, b, e, b0, b1, hn, k⟩ => ⟨c, n, b, e, b0, b1, hn, fun H' p => k H' p (rowF c n b)⟩

def spEntries : Sp := fun vs H Q _ => vs = [] ∧ ∀ H' p, Same H H' → H p = none → H' p = some (.lst (ENT.map V.str)) → Q (.ref p) H'
theorem ok_entries : FnOk PP w K mg base CX0 1 T.f_law_entries T.d_law_entries [] spEntries := by
  refine T.F_law_entries.ok sc_law_entries (fun vs H Q E h => ?_) (fun cdv A outer s H vs Q E hr h => ?_)
  · obtain ⟨rfl, _⟩ := h
    rfl
  · obtain ⟨rfl, k⟩ := h
    refine ⟨_, pss_cons (ps_set (i := 0) sc_law_entries.nd rfl (.inl rfl) (pe_lst (pa_cons pe_str (pa_cons pe_str (pa_cons pe_str (pa_cons pe_str pa_nil))))))
 (pss_cons (ps_set (i := 0) sc_law_entries.nd rfl (.inl rfl) (pe_op op_cat (pv 0) (pe_lst (pa_cons pe_str (pa_cons pe_str (pa_cons pe_str (pa_cons pe_str pa_nil)))))))
 (pss_cons (ps_set (i := 0) sc_law_entries.nd rfl (.inl rfl) (pe_op op_cat (pv 0) (pe_lst (pa_cons pe_str (pa_cons pe_str (pa_cons pe_str pa_nil))))))
 (pss_one (ps_ret (pe_op op_cat (pv 0) (pe_lst (pa_cons pe_str (pa_cons pe_str (pa_cons pe_str pa_nil))))))))), ?_⟩
    have l4 : 4 ≤ sizeLine := by decide
    have l3 : 3 ≤ sizeLine := by decide
    refine ⟨l4, fun p1 n1 => ?_⟩
    have s1 := same_new (o := .lst [.str "read late", .str "read under", .str "read below", .str "read above"]) (Same.refl H) n1
    refine ⟨_, rfl, l4, fun p2 n2 => ?_⟩
    have s2 := same_new (o := .lst [.str "write late", .str "write under", .str "write below", .str "write above"]) s1 n2
    refine ⟨p1, p2, _, _, rfl, rfl, kp n2 upd_same, upd_same, (by decide : 4 + 4 ≤ sizeLine), fun p3 n3 => ?_⟩
    have s3 := same_new (o := .lst ((ENT.take 8).map V.str)) s2 n3
    refine ⟨_, rfl, l3, fun p4 n4 => ?_⟩
    have s4 := same_new (o := .lst [.str "write free passed", .str "write own passed", .str "write late passed"]) s3 n4
    refine ⟨p3, p4, _, _, rfl, rfl, kp n4 upd_same, upd_same, (by decide : 8 + 3 ≤ sizeLine), fun p5 n5 => ?_⟩
    have s5 := same_new (o := .lst ((ENT.take 11).map V.str)) s4 n5
    refine ⟨_, rfl, l3, fun p6 n6 => ?_⟩
    have s6 := same_new (o := .lst [.str "write under passed", .str "write below passed", .str "write above passed"]) s5 n6
    refine ⟨p5, p6, _, _, rfl, rfl, kp n6 upd_same, upd_same, (by decide : 11 + 3 ≤ sizeLine), fun p7 n7 => ?_⟩
    exact k _ p7 (same_new (o := .lst (ENT.map V.str)) s6 n7) (s6.free n7) upd_same
def spChoices : Sp := fun vs H Q _ => ∃ e, vs = [.str e] ∧ ∀ H' p, Same H H' → H p = none → H' p = some (.lst ((chs e).map V.str)) → Q (.ref p) H'
theorem ok_choices : FnOk PP w K mg base CX0 1 T.f_law_choices T.d_law_choices ["_law_name"] spChoices := by
  refine T.F_law_choices.ok sc_law_choices (fun vs H Q E h => ?_) (fun cdv A outer s H vs Q E hr h => ?_)
  · obtain ⟨e, rfl, _⟩ := h
    rfl
  · obtain ⟨e, rfl, k⟩ := h
    refine ⟨_, pss_cons (ps_if (pt_cmpR op_eq (pv 0) pe_str (nomark _))
 (pss_one (ps_ret (pe_lst (pa_cons pe_str (pa_cons pe_str (pa_cons pe_str pa_nil))))))
 pss_nil)
 (pss_cons (ps_if (pt_cmpR op_eq (pv 0) pe_str (nomark _))
 (pss_one (ps_ret (pe_lst (pa_cons pe_str (pa_cons pe_str (pa_cons pe_str (pa_cons pe_str (pa_cons pe_str pa_nil))))))))
 pss_nil)
 (pss_cons (ps_if (pt_cmpR op_in_seq (pv 0) (pe_lst (pa_cons pe_str (pa_cons pe_str pa_nil))) rfl)
 (pss_one (ps_ret (pe_lst (pa_cons pe_str (pa_cons pe_str (pa_cons pe_str (pa_cons pe_str pa_nil)))))))
 pss_nil)
 (pss_cons (ps_if (pt_cmpR op_in_seq (pv 0) (pe_lst (pa_cons pe_str (pa_cons pe_str pa_nil))) rfl)
 (pss_one (ps_ret (pe_lst (pa_cons pe_str (pa_cons pe_str pa_nil)))))
 pss_nil)
 (pss_cons (ps_if (pt_cmpR op_in_seq (pv 0) (pe_lst (pa_cons pe_str (pa_cons pe_str pa_nil))) rfl)
 (pss_one (ps_ret (pe_lst (pa_cons pe_str (pa_cons pe_str pa_nil)))))
 pss_nil)
 (pss_one (ps_ret (pe_lst (pa_cons pe_str (pa_cons pe_str (pa_cons pe_str (pa_cons pe_str pa_nil))))))))))), ?_⟩
    have l2 : 2 ≤ sizeLine := by decide
    have l3 : 3 ≤ sizeLine := by decide
    have l4 : 4 ≤ sizeLine := by decide
    have l5 : 5 ≤ sizeLine := by decide
    have ds : ∀ a b : Str, decide (V.str a = V.str b) = decide (a = b) := fun a b => decide_eq_decide.mpr ⟨V.str.inj, congrArg _⟩
    refine ⟨_, rfl, rfl, _, rfl, ?_⟩
    rw [ds]
    by_cases h1 : e = "read late"
    · rw [decide_eq_true h1]
      have ec : chs e = [("last" : Str), "old", "abort"] := by unfold chs; rw [if_pos h1]
      rw [ec] at k
      exact iteT ⟨l3, fun p n => k _ p (same_new (Same.refl H) n) n upd_same⟩
    rw [decide_eq_false h1]
    refine iteF ⟨_, rfl, rfl, _, rfl, ?_⟩
    rw [ds]
    by_cases h2 : e = "read under"
    · rw [decide_eq_true h2]
      have ec : chs e = [("last" : Str), "old", "open", "wait", "abort"] := by unfold chs; rw [if_neg h1, if_pos h2]
      rw [ec] at k
      exact iteT ⟨l5, fun p n => k _ p (same_new (Same.refl H) n) n upd_same⟩
    rw [decide_eq_false h2]
    have mem2 : ∀ a b : Str, inV (.str e) [.str a, .str b] = decide (e = a ∨ e = b) := fun a b => by
      have z := inV_str e [a, b]
      simp only [List.mem_cons, List.not_mem_nil, or_false] at z
      exact z
    refine iteF ⟨_, rfl, l2, fun p1 n1 => ⟨p1, _, rfl, .inl (SqL.of upd_same), rfl, rfl, _, rfl, ?_⟩⟩
    have s1 := same_new (o := .lst [.str "read below", .str "read above"]) (Same.refl H) n1
    rw [if_neg Bool.false_ne_true, mem2]
    by_cases h3 : e = "read below" ∨ e = "read above"
    · rw [decide_eq_true h3]
      have ec : chs e = [("last" : Str), "open", "wait", "abort"] := by unfold chs; rw [if_neg h1, if_neg h2, if_pos h3]
      rw [ec] at k
      exact iteT ⟨l4, fun p n => k _ p (same_new s1 n) (s1.free n) upd_same⟩
    rw [decide_eq_false h3]
    refine iteF ⟨_, rfl, l2, fun p2 n2 => ⟨p2, _, rfl, .inl (SqL.of upd_same), rfl, rfl, _, rfl, ?_⟩⟩
    have s2 := same_new (o := .lst [.str "write free passed", .str "write own passed"]) s1 n2
    rw [if_neg Bool.false_ne_true, mem2]
    by_cases h4 : e = "write free passed" ∨ e = "write own passed"
    · rw [decide_eq_true h4]
      have ec : chs e = [("put" : Str), "abort"] := by unfold chs; rw [if_neg h1, if_neg h2, if_neg h3, if_pos h4]
      rw [ec] at k
      exact iteT ⟨l2, fun p n => k _ p (same_new s2 n) (s2.free n) upd_same⟩
    rw [decide_eq_false h4]
    refine iteF ⟨_, rfl, l2, fun p3 n3 => ⟨p3, _, rfl, .inl (SqL.of upd_same), rfl, rfl, _, rfl, ?_⟩⟩
    have s3 := same_new (o := .lst [.str "write late", .str "write late passed"]) s2 n3
    rw [if_neg Bool.false_ne_true, mem2]
    by_cases h5 : e = "write late" ∨ e = "write late passed"
    · rw [decide_eq_true h5]
      have ec : chs e = [("skip" : Str), "abort"] := by unfold chs; rw [if_neg h1, if_neg h2, if_neg h3, if_neg h4, if_pos h5]
      rw [ec] at k
      exact iteT ⟨l2, fun p n => k _ p (same_new s3 n) (s3.free n) upd_same⟩
    rw [decide_eq_false h5]
    have ec : chs e = [("skip" : Str), "wait", "wound", "abort"] := by unfold chs; rw [if_neg h1, if_neg h2, if_neg h3, if_neg h4, if_neg h5]
    rw [ec] at k
    exact iteF ⟨l4, fun p n => k _ p (same_new s3 n) (s3.free n) upd_same⟩
end
end K27

namespace K27
open PySem L2 SI CM BK OWN
section
variable {w : World} {K : PySem.W.Frag} {mg : Str → Option Value} {base : Heap} (T : Txt w K mg)
/-- a drawn table -/
def spTable : Sp := fun vs H Q _ => ∃ c : Int, vs = [.int c] ∧ ∀ H' p (f : Str → Str), Same H H' → H p = none → H' p = some (.dK (tabS ENT f)) → (∀ e ∈ ENT, f e ∈ chs e) → Q (.ref p) H'
theorem ok_table : FnOk PP w K mg base CX0 2 T.f_law_table T.d_law_table ["_law_cell_here"] spTable := by
  refine T.F_law_table.ok sc_law_table (fun vs H Q E h => ?_) (fun cdv A outer s H vs Q E hr h => ?_)
  · obtain ⟨c, rfl, _⟩ := h
    rfl
  · obtain ⟨c, rfl, k⟩ := h
    refine ⟨_, pss_cons (ps_set (i := 1) sc_law_table.nd rfl (.inl rfl) pe_dnewK)
 (pss_cons (ps_set (i := 2) sc_law_table.nd rfl (.inl rfl) (pe_call0 (ok_entries T) (hr.mono (by decide)) (by rfl) T.g_law_entries T.F_law_entries.kp (b_law_entries T) .nil pass0))
 (pss_cons (ps_set (i := 3) sc_law_table.nd rfl (.inl rfl) (pe_call (ok_row T) (hr.mono (by decide)) (by rfl) T.g_law_row T.F_law_row.kp (b_law_row T) .nil pass0 (pa_cons (pv 0) (pa_cons pe_int (pa_cons pe_int pa_nil)))))
 (C8.pss_cut (ps_for PassesOwn.never rfl (pi_range1 rfl T.n_range (pa_cons pe_int pa_nil)) (pg_name (i := 4) sc_law_table.nd rfl (.inl rfl))
 (pss_cons (ps_set (i := 5) sc_law_table.nd rfl (.inl rfl) (pe_call (ok_choices T) (hr.mono (by decide)) (by rfl) T.g_law_choices T.F_law_choices.kp (b_law_choices T) .nil pass0 (pa_cons (pe_ix ix_list (pv 2) (pv 4) (fun _ _ => rfl)) pa_nil)))
 (pss_one (ps_dput (hu_of hr) (pv 1) (pe_ix ix_list (pv 2) (pv 4) (fun _ _ => rfl)) (pe_ix ix_list (pv 5) (pe_op op_mod (pe_callTy call_int1 (by rfl) T.n_int (by decide +kernel) (pa_cons (pe_ix ix_list (pv 3) (pv 4) (fun _ _ => rfl)) pa_nil)) (pe_callB call_len_seq (by rfl) T.n_len PySem.boot_len (pa_cons (pv 5) pa_nil))) (fun _ _ => rfl)) rfl))))
 (pss_one (ps_ret (pv 1)))))), ?_⟩
    refine fun D nD => ?_
    have s0 := same_new (o := .dK []) (Same.refl H) nD
    refine ⟨rfl, fun H1 N s1 nN hN => ?_⟩
    refine ⟨_, rfl, c, 14, 60, rfl, by decide, by decide, by decide, fun H2 R ds s2 nR hR hl hd => ?_⟩
    have sm2 : Same H H2 := (s0.trans s1).trans s2
    have hD2 : H2 D = some (.dK []) := s2 _ _ (s1 _ _ upd_same)
    have hN2 := s2 _ _ hN
    have nND : N ≠ D := fun z => by rw [z, upd_same] at nN; cases nN
    have nRD : R ≠ D := fun z => by rw [z, s1 _ _ upd_same] at nR; cases nR
    refine ⟨fun σ H' => ∃ v4 v5 f, σ = [some (.int c), some (.ref D), some (.ref N), some (.ref R), v4, v5] ∧ H' D = some (.dK (tabS ENT f)) ∧ (∀ e ∈ ENT, f e ∈ chs e) ∧ (∀ b o, b ≠ D → H2 b = some o → H' b = some o), ?_, ?_⟩
    · refine ⟨14, rfl, by decide, by decide, for_range (lo := 0) (n := 14) (fun i σ H' => ∃ v4 v5 f, σ = [some (.int c), some (.ref D), some (.ref N), some (.ref R), v4, v5] ∧ H' D = some (.dK (tabS (ENT.take i) f)) ∧ (∀ e ∈ ENT.take i, f e ∈ chs e) ∧ (∀ b o, b ≠ D → H2 b = some o → H' b = some o))
        ⟨none, none, fun _ => "", rfl, hD2, (fun e h => by cases h), fun b o _ z => z⟩ ?_ ?_⟩
      · rintro i σ H3 hi ⟨v4, v5, f, rfl, hD3, hf, b3⟩
        have hi' : i < ENT.length := hi
        have hN3 := b3 _ _ nND hN2
        have hR3 := b3 _ _ nRD hR
        obtain ⟨d, hd'⟩ : ∃ d, ds[i]? = some d := ⟨ds[i]'(by omega), List.getElem?_eq_getElem (by omega)⟩
        have d0 := hd d (List.mem_of_getElem? hd')
        have eN : atI (ENT.map V.str) (0 + (i : Int)) = some (.str ENT[i]) := by
          rw [Int.zero_add]
          exact atI_nat (by rw [List.getElem?_map, List.getElem?_eq_getElem hi']; rfl)
        have eR : atI (ds.map V.int) (0 + (i : Int)) = some (.int d) := by
          rw [Int.zero_add]
          exact atI_nat (by rw [List.getElem?_map, hd']; rfl)
        refine ⟨_, rfl, _, rfl, N, _, _, _, rfl, rfl, SqL.of hN3, eN, _, rfl, fun H4 P s4 nP hP => ?_⟩
        have cl := chs_len ENT[i]
        have posn : (0 : Int) < (((chs ENT[i]).map V.str).length : Nat) := by rw [List.length_map]; omega
        refine ⟨_, rfl, _, rfl, _, rfl, R, _, _, _, rfl, rfl, SqL.of (s4 _ _ hR3), eR, .inl ⟨_, rfl, _, rfl, P, _, rfl, .inl (SqL.of hP), _, _, rfl, rfl, posn, ?_⟩⟩
        have m0 := Int.emod_nonneg d (Int.ne_of_gt posn)
        have m1 := Int.emod_lt_of_pos d posn
        obtain ⟨j, hj⟩ := Int.eq_ofNat_of_zero_le m0
        have hj2 : j < (chs ENT[i]).length := by rw [hj, List.length_map] at m1; omega
        have eA : atI ((chs ENT[i]).map V.str) (d % (((chs ENT[i]).map V.str).length : Nat)) = some (.str (chs ENT[i])[j]) := by
          rw [hj]
          exact atI_nat (by rw [List.getElem?_map, List.getElem?_eq_getElem hj2]; rfl)
        refine ⟨P, _, _, _, rfl, rfl, SqL.of hP, eA, _, rfl, _, rfl, _, rfl, N, _, _, _, rfl, rfl, SqL.of (s4 _ _ hN3), eN, D, _, rfl, DPut.k (k := Sum.inr ENT[i]) (s4 _ _ hD3) (by rw [tab_len, List.length_take]; exact small1000 (by rw [ent_len]; omega)), ?_⟩
        have hn : ENT[i] ∉ ENT.take i := fun z => by
          obtain ⟨jj, hjj, ej⟩ := List.mem_iff_getElem.mp z
          rw [List.length_take] at hjj
          rw [List.getElem_take] at ej
          exact (List.pairwise_iff_getElem.mp ent_nodup) jj i (by omega) hi' (by omega) ej
        have et : ENT.take (i + 1) = ENT.take i ++ [ENT[i]] := by rw [List.take_add_one, List.getElem?_eq_getElem hi'] <;> rfl
        refine ⟨_, _, put f ENT[i] (chs ENT[i])[j], rfl, ?_, fun e he => ?_, fun b o hb z => ?_⟩
        · rw [upd_same, put_new (g := V.str) hn, et]
        · rw [et] at he
          by_cases q : e = ENT[i]
          · rw [q, put_same]
            exact List.getElem_mem hj2
          · rw [put_ne q]
            rcases List.mem_append.mp he with he | he
            · exact hf e he
            · exact absurd (List.mem_singleton.mp he) q
        · rw [upd_ne hb]
          exact s4 _ _ (b3 b o hb z)
      · rintro σ H3 ⟨v4, v5, f, rfl, hD3, hf, b3⟩
        exact ⟨_, _, f, rfl, hD3, hf, b3⟩
    rintro σ H3 ⟨v4, v5, f, rfl, hD3, hf, b3⟩
    exact ⟨_, rfl, k H3 D f (fun b o z => b3 b o (ne_of_none z nD) (sm2 b o z)) nD hD3 hf⟩
end
end K27

namespace K27
open PySem L2 SI CM BK
section
variable {w : World} {K : PySem.W.Frag} {mg : Str → Option Value} {base : Heap} (T : Txt w K mg)
/-- an error's __init__ with one field -/
def spE1 (C : Addr) (f : Str) : Sp := fun vs H Q _ => ∃ a v, vs = [.ref a, v] ∧ H a = some (exo a C none) ∧ ∀ dx, H dx = none → dx ≠ a → Q .non (upd (upd H dx (exd dx [(f, v)])) a (exo a C (some dx)))
/-- .. with two -/
def spE2 (C : Addr) (f g : Str) : Sp := fun vs H Q _ => ∃ a v u, vs = [.ref a, v, u] ∧ H a = some (exo a C none) ∧ ∀ dx, H dx = none → dx ≠ a → Q .non (upd (upd H dx (exd dx [(g, u), (f, v)])) a (exo a C (some dx)))
theorem ok_BadEntry : FnOk PP w K mg base CX0 1 T.f_BadEntry_init T.d_BadEntry_init ["self", "entry"] (spE1 T.c_BadEntry "entry") := by
  refine ok_sup (N := ["self", "entry", "__class__"]) T.S_BadEntry_init sc_BadEntry_init rfl (show (defScope s_BadEntry_init).names.lookup ("super" : Str) = some .globalImplicit by decide +kernel) rfl rfl (fun vs H Q E h => ?_) (fun A outer s H vs Q E hr h => ?_)
  · obtain ⟨a, v, rfl, _⟩ := h
    rfl
  · obtain ⟨a, v, rfl, ha, k⟩ := h
    refine ⟨a, _, _, _, pa_cons pe_str pa_nil, pss_one (ps_ost (pv 0) (pv 1)), rfl, fun M B u Q' E' s' z => PySem.Calls.evalArgs_plain z, rfl, rfl, rfl, ha, by show 1 ≤ 1000; decide, ha, ?_⟩
    exact ⟨_, rfl, _, rfl, _, _, rfl, T.oex_BadEntry, T.na_BadEntry_entry, .inl ⟨ha, fun dx n ne => k dx n ne⟩⟩
theorem ok_BadAnswer : FnOk PP w K mg base CX0 1 T.f_BadAnswer_init T.d_BadAnswer_init ["self", "entry", "answer"] (spE2 T.c_BadAnswer "entry" "answer") := by
  refine ok_sup (N := ["self", "entry", "answer", "__class__"]) T.S_BadAnswer_init sc_BadAnswer_init rfl (show (defScope s_BadAnswer_init).names.lookup ("super" : Str) = some .globalImplicit by decide +kernel) rfl rfl (fun vs H Q E h => ?_) (fun A outer s H vs Q E hr h => ?_)
  · obtain ⟨a, v, u, rfl, _⟩ := h
    rfl
  · obtain ⟨a, v, u, rfl, ha, k⟩ := h
    refine ⟨a, _, _, _, pa_cons pe_str pa_nil, pss_cons (ps_ost (pv 0) (pv 1)) (pss_one (ps_ost (pv 0) (pv 2))), rfl, fun M B u Q' E' s' z => PySem.Calls.evalArgs_plain z, rfl, rfl, rfl, ha, by show 1 ≤ 1000; decide, ha, ?_⟩
    refine ⟨_, rfl, _, rfl, _, _, rfl, T.oex_BadAnswer, T.na_BadAnswer_entry, .inl ⟨ha, fun dx n ne => ?_⟩⟩
    refine ⟨_, rfl, _, rfl, _, _, rfl, T.oex_BadAnswer, T.na_BadAnswer_answer, .inr ⟨dx, _, upd_same, by rw [upd_ne ne, upd_same], Nat.le_of_ble_eq_true rfl, ?_⟩⟩
    have z := k dx n ne
    rw [← upd_swap (o1 := exd dx [("entry", v)]) ne] at z
    exact z
/-- what raise of an error with one field asks, behind its arguments -/
theorem rz1 {C : Addr} {H : Hp} {v : V} {f : Str} {E : XK} (kF : ∀ d, H d = none → E (.ref C) (some d) (upd H d (.xd [(f, v)]))) :
    (1 : Nat) ≤ 1000 ∧ ∀ a, H a = none → spE1 C f ([V.ref a, v] ++ []) (upd H a (exo a C none)) (fun x H1 => x = .non ∧ ∃ d fs, H1 a = some (exo a C (some d)) ∧ H1 d = some (exd d fs) ∧ H d = none ∧ E (.ref C) (some d) (upd (del H1 a) d (.xd fs))) E0 := by
  refine ⟨by decide, fun a ha => ⟨a, v, rfl, upd_same, fun d hd hne => ⟨rfl, d, [(f, v)], upd_same, ?_, ?_, ?_⟩⟩⟩
  · rw [upd_ne hne, upd_same]
  · rw [upd_ne hne] at hd
    exact hd
  · rw [upd_ne hne] at hd
    have z := kF d hd
    rw [raise_heap ha]
    exact z
theorem rz2 {C : Addr} {H : Hp} {v u : V} {f g : Str} {E : XK} (kF : ∀ d, H d = none → E (.ref C) (some d) (upd H d (.xd [(g, u), (f, v)]))) :
    (2 : Nat) ≤ 1000 ∧ ∀ a, H a = none → spE2 C f g ([V.ref a, v, u] ++ []) (upd H a (exo a C none)) (fun x H1 => x = .non ∧ ∃ d fs, H1 a = some (exo a C (some d)) ∧ H1 d = some (exd d fs) ∧ H d = none ∧ E (.ref C) (some d) (upd (del H1 a) d (.xd fs))) E0 := by
  refine ⟨by decide, fun a ha => ⟨a, v, u, rfl, upd_same, fun d hd hne => ⟨rfl, d, [(g, u), (f, v)], upd_same, ?_, ?_, ?_⟩⟩⟩
  · rw [upd_ne hne, upd_same]
  · rw [upd_ne hne] at hd
    exact hd
  · rw [upd_ne hne] at hd
    have z := kF d hd
    rw [raise_heap ha]
    exact z
/-- the name is an entry -/
def isEnt (v : V) : Prop := ∃ e, v = .str e ∧ e ∈ ENT
def spAns (K : PySem.W.Frag) (C : Addr) : Sp := fun vs H Q E => ∃ v, vs = [v] ∧ flatV v = true ∧
  (∀ e, v = .str e → e ∈ ENT → ∀ p, (∀ H', SqT K H' p ((chs e).map V.str)) → Q (.ref p) H) ∧ (¬ isEnt v → ∀ d, H d = none → E (.ref C) (some d) (upd H d (.xd [(("entry" : Str), v)])))
theorem ans_at : ∀ e ∈ ENT, ∃ p, PySem.W.nsIn K T.o_ANSWERS e = some (some (.ref p)) ∧ ∀ H', SqT K H' p ((chs e).map V.str) := by
  intro e he
  simp only [ENT, List.mem_cons, List.not_mem_nil, or_false] at he
  rcases he with rfl | rfl | rfl | rfl | rfl | rfl | rfl | rfl | rfl | rfl | rfl | rfl | rfl | rfl
  · exact ⟨_, T.n0_ANSWERS, fun H' => by rw [show (chs "read late").map V.str = [.str "last", .str "old", .str "abort"] by decide +kernel]; exact T.q0_ANSWERS H'⟩
  · exact ⟨_, T.n1_ANSWERS, fun H' => by rw [show (chs "read under").map V.str = [.str "last", .str "old", .str "open", .str "wait", .str "abort"] by decide +kernel]; exact T.q1_ANSWERS H'⟩
  · exact ⟨_, T.n2_ANSWERS, fun H' => by rw [show (chs "read below").map V.str = [.str "last", .str "open", .str "wait", .str "abort"] by decide +kernel]; exact T.q2_ANSWERS H'⟩
  · exact ⟨_, T.n3_ANSWERS, fun H' => by rw [show (chs "read above").map V.str = [.str "last", .str "open", .str "wait", .str "abort"] by decide +kernel]; exact T.q3_ANSWERS H'⟩
  · exact ⟨_, T.n4_ANSWERS, fun H' => by rw [show (chs "write late").map V.str = [.str "skip", .str "abort"] by decide +kernel]; exact T.q4_ANSWERS H'⟩
  · exact ⟨_, T.n5_ANSWERS, fun H' => by rw [show (chs "write under").map V.str = [.str "skip", .str "wait", .str "wound", .str "abort"] by decide +kernel]; exact T.q5_ANSWERS H'⟩
  · exact ⟨_, T.n6_ANSWERS, fun H' => by rw [show (chs "write below").map V.str = [.str "skip", .str "wait", .str "wound", .str "abort"] by decide +kernel]; exact T.q6_ANSWERS H'⟩
  · exact ⟨_, T.n7_ANSWERS, fun H' => by rw [show (chs "write above").map V.str = [.str "skip", .str "wait", .str "wound", .str "abort"] by decide +kernel]; exact T.q7_ANSWERS H'⟩
  · exact ⟨_, T.n8_ANSWERS, fun H' => by rw [show (chs "write free passed").map V.str = [.str "put", .str "abort"] by decide +kernel]; exact T.q8_ANSWERS H'⟩
  · exact ⟨_, T.n9_ANSWERS, fun H' => by rw [show (chs "write own passed").map V.str = [.str "put", .str "abort"] by decide +kernel]; exact T.q9_ANSWERS H'⟩
  · exact ⟨_, T.n10_ANSWERS, fun H' => by rw [show (chs "write late passed").map V.str = [.str "skip", .str "abort"] by decide +kernel]; exact T.q10_ANSWERS H'⟩
  · exact ⟨_, T.n11_ANSWERS, fun H' => by rw [show (chs "write under passed").map V.str = [.str "skip", .str "wait", .str "wound", .str "abort"] by decide +kernel]; exact T.q11_ANSWERS H'⟩
  · exact ⟨_, T.n12_ANSWERS, fun H' => by rw [show (chs "write below passed").map V.str = [.str "skip", .str "wait", .str "wound", .str "abort"] by decide +kernel]; exact T.q12_ANSWERS H'⟩
  · exact ⟨_, T.n13_ANSWERS, fun H' => by rw [show (chs "write above passed").map V.str = [.str "skip", .str "wait", .str "wound", .str "abort"] by decide +kernel]; exact T.q13_ANSWERS H'⟩
theorem ok_answers_at : FnOk PP w K mg base (L2.CX PP w) 4 T.f_answers_at T.d_answers_at ["entry"] (spAns K T.c_BadEntry) := by
  refine T.F_answers_at.okX sc_answers_at (fun vs H Q E h => ?_) (fun cdv A outer s H vs Q E hr h => ?_)
  · obtain ⟨v, rfl, _⟩ := h
    rfl
  · obtain ⟨v, rfl, fv, kT, kF⟩ := h
    refine ⟨_, pss_cons (ps_if (pt_cmpR op_notIn_seq (pv 0) (pe_glob (v := .ref T.o_ENTRIES) (by rfl) T.g_ENTRIES rfl) rfl)
 (pss_one (ps_raise rfl (takes_of rfl rfl rfl rfl) (pmk_oex T.oex_BadEntry T.i_BadEntry_init T.t_BadEntry_init (ok_BadEntry T) (hr.mono (by decide)) (b_BadEntry_init T) .nil pass0 (by rfl) T.g_BadEntry (pa_cons (pv 0) pa_nil))))
 pss_nil)
 (pss_one (ps_ret (pe_ix (ix_kd T.kd_ANSWERS) (pe_glob (v := .ref T.o_ANSWERS) (by rfl) T.g_ANSWERS rfl) (pv 0) (fun _ _ => rfl)))), ?_⟩
    refine ⟨_, rfl, T.o_ENTRIES, ENT.map V.str, rfl, .inr (T.q_ENTRIES H), fv, flat_strs _, _, rfl, ?_⟩
    by_cases hE : isEnt v
    · obtain ⟨e, rfl, he⟩ := hE
      obtain ⟨p, hp, hq⟩ := ans_at T e he
      rw [inV_str, decide_eq_true he]
      exact iteF ⟨_, rfl, e, _, .ref p, rfl, rfl, hp, rfl, kT e rfl he p hq⟩
    · rw [inV_not fun e h1 h2 => hE ⟨e, h1, h2⟩]
      exact iteT ⟨_, rfl, rz1 (kF hE)⟩
end
end K27

namespace K27
open PySem L2 SI CM BK OWN
section
variable {w : World} {K : PySem.W.Frag} {mg : Str → Option Value} {base : Heap} (T : Txt w K mg)
abbrev KINDS : List Str := ["read", "write"]
abbrev SPOTS : List Str := ["free", "own", "late", "under", "below", "above"]
/-- the entry that is met -/
def entM (k sp : Str) (p : Bool) : Option Str := if k = "write" ∧ p = true then some (Str.empty ++ "write " ++ sp ++ " passed") else if sp ∈ (["free", "own"] : List Str) then none else some (Str.empty ++ k ++ " " ++ sp)
def fixM (k sp : Str) : Str := if k = "write" then "put" else if sp = "free" then "last" else "open"
theorem ent_in : ∀ k ∈ KINDS, ∀ sp ∈ SPOTS, ∀ p : Bool, ∀ e, entM k sp p = some e → e ∈ ENT := by
  have h : ∀ k ∈ KINDS, ∀ sp ∈ SPOTS, ∀ p ∈ [true, false], ((entM k sp p).all fun e => decide (e ∈ ENT)) = true := by decide +kernel
  intro k hk sp hs p e he
  have := h k hk sp hs p (by cases p <;> simp)
  rw [he] at this
  exact of_decide_eq_true this
theorem lens : ∀ k ∈ KINDS, ∀ sp ∈ SPOTS, (Str.empty ++ "write ").length ≤ 30 ∧ (Str.empty ++ "write " ++ sp).length ≤ 30 ∧ (Str.empty ++ "write " ++ sp ++ " passed").length ≤ 30 ∧ (Str.empty ++ k).length ≤ 30 ∧ (Str.empty ++ k ++ " ").length ≤ 30 ∧ (Str.empty ++ k ++ " " ++ sp).length ≤ 30 := by decide +kernel
theorem sp_len : ∀ sp ∈ SPOTS, sp.length ≤ 30 := by decide +kernel
theorem k_len : ∀ sp ∈ KINDS, sp.length ≤ 30 := by decide +kernel
theorem ds (a b : Str) : decide (V.str a = V.str b) = decide (a = b) := decide_eq_decide.mpr ⟨V.str.inj, congrArg _⟩
def oV : Option Str → V
  | none => .non
  | some e => .str e
def spEM : Sp := fun vs H Q _ => ∃ k sp p, vs = [.str k, .str sp, .bl p] ∧ k ∈ KINDS ∧ sp ∈ SPOTS ∧ ∀ H', Same H H' → Q (oV (entM k sp p)) H'
theorem ok_entry_met : FnOk PP w K mg base CX0 1 T.f_entry_met T.d_entry_met ["kind", "spot", "passed"] spEM := by
  refine T.F_entry_met.ok sc_entry_met (fun vs H Q E h => ?_) (fun cdv A outer s H vs Q E hr h => ?_)
  · obtain ⟨k, sp, p, rfl, _⟩ := h
    rfl
  · obtain ⟨kd, sp, p, rfl, hk, hs, k⟩ := h
    refine ⟨_, pss_cons (ps_if (PW.pt (pw_and (pt_cmpR op_eq (pv 0) pe_str (nomark _)) (pw_and1 (pt_val (pv 2)))))
 (pss_one (ps_ret (pe_joined (.cons pe_str (.cons (pe_fmt (pv 1)) (.cons pe_str .nil))))))
 pss_nil)
 (pss_cons (ps_if (pt_cmpR op_in_seq (pv 1) (pe_tup (pa_cons pe_str (pa_cons pe_str pa_nil))) rfl)
 (pss_one (ps_ret pe_non))
 pss_nil)
 (pss_one (ps_ret (pe_joined (.cons (pe_fmt (pv 0)) (.cons pe_str (.cons (pe_fmt (pv 1)) .nil))))))), ?_⟩
    have two : 2 ≤ sizeLine := by decide
    have big : ∀ n : Nat, n ≤ 30 → n ≤ sizeLine := fun n h => Nat.le_of_lt (small1000 (by omega))
    obtain ⟨l1, l2, l3, l4, l5, l6⟩ := lens kd hk sp hs
    have lsp := sp_len sp hs
    have lk := k_len kd hk
    refine ⟨_, rfl, rfl, _, rfl, ?_⟩
    rw [ds]
    by_cases hw : kd = "write"
    · subst hw
      refine iteT ⟨_, rfl, _, rfl, ?_⟩
      cases p with
      | true =>
        have k := k H (Same.refl H)
        rw [show entM "write" sp true = some (Str.empty ++ "write " ++ sp ++ " passed") from if_pos ⟨rfl, rfl⟩] at k
        exact iteT ⟨_, rfl, big _ l1, _, rfl, .inl ⟨_, rfl, big _ lsp, _, rfl, big _ l2, _, rfl, big _ l3, k⟩⟩
      | false =>
        have hE : entM "write" sp false = if sp ∈ (["free", "own"] : List Str) then none else some (Str.empty ++ "write" ++ " " ++ sp) := if_neg (fun z => by cases z.2)
        refine iteF ?_
        refine ⟨_, rfl, two, fun t nt => ?_⟩
        refine ⟨t, (["free", "own"] : List Str).map V.str, rfl, .inr (SqT.of upd_same), rfl, flat_strs _, _, rfl, ?_⟩
        have sm := same_new (o := .tup ((["free", "own"] : List Str).map V.str)) (Same.refl H) nt
        rw [inV_str]
        have k := k _ sm
        by_cases hf : sp ∈ (["free", "own"] : List Str)
        · rw [hE, if_pos hf] at k
          rw [decide_eq_true hf]
          exact iteT k
        · rw [hE, if_neg hf] at k
          rw [decide_eq_false hf]
          exact iteF ⟨_, rfl, .inl ⟨_, rfl, big _ lk, _, rfl, big _ l4, _, rfl, big _ l5, _, rfl, .inl ⟨_, rfl, big _ lsp, _, rfl, big _ l6, k⟩⟩⟩
    · rw [decide_eq_false hw]
      have hE : entM kd sp p = if sp ∈ (["free", "own"] : List Str) then none else some (Str.empty ++ kd ++ " " ++ sp) := if_neg (fun z => hw z.1)
      refine iteF (iteF ?_)
      refine ⟨_, rfl, two, fun t nt => ?_⟩
      refine ⟨t, (["free", "own"] : List Str).map V.str, rfl, .inr (SqT.of upd_same), rfl, flat_strs _, _, rfl, ?_⟩
      have sm := same_new (o := .tup ((["free", "own"] : List Str).map V.str)) (Same.refl H) nt
      rw [inV_str]
      have k := k _ sm
      by_cases hf : sp ∈ (["free", "own"] : List Str)
      · rw [hE, if_pos hf] at k
        rw [decide_eq_true hf]
        exact iteT k
      · rw [hE, if_neg hf] at k
        rw [decide_eq_false hf]
        exact iteF ⟨_, rfl, .inl ⟨_, rfl, big _ lk, _, rfl, big _ l4, _, rfl, big _ l5, _, rfl, .inl ⟨_, rfl, big _ lsp, _, rfl, big _ l6, k⟩⟩⟩
def spFix : Sp := fun vs H Q _ => ∃ k sp, vs = [.str k, .str sp] ∧ Q (.str (fixM k sp)) H
theorem ok_fixed : FnOk PP w K mg base CX0 1 T.f_fixed_answer T.d_fixed_answer ["kind", "spot"] spFix := by
  refine T.F_fixed_answer.ok sc_fixed_answer (fun vs H Q E h => ?_) (fun cdv A outer s H vs Q E hr h => ?_)
  · obtain ⟨k, sp, rfl, _⟩ := h
    rfl
  · obtain ⟨kd, sp, rfl, k⟩ := h
    refine ⟨_, pss_cons (ps_if (pt_cmpR op_eq (pv 0) pe_str (nomark _))
 (pss_one (ps_ret pe_str))
 pss_nil)
 (pss_one (ps_ret (pe_ifExp (pt_cmpR op_eq (pv 1) pe_str (nomark _)) pe_str pe_str))), ?_⟩
    unfold fixM at k
    refine ⟨_, rfl, rfl, _, rfl, ?_⟩
    rw [ds]
    by_cases h : kd = "write"
    · rw [if_pos h] at k
      rw [decide_eq_true h]
      exact iteT k
    · rw [if_neg h] at k
      rw [decide_eq_false h]
      refine iteF ⟨_, rfl, rfl, _, rfl, ?_⟩
      rw [ds]
      by_cases h2 : sp = "free"
      · rw [if_pos h2] at k
        rw [decide_eq_true h2]
        exact iteT k
      · rw [if_neg h2] at k
        rw [decide_eq_false h2]
        exact iteF k
end
end K27

/-! The program's states apart from any law: items, who is over, bonds; what a step makes of them; how they lie in the heap. -/
namespace MIR
open PySem L2 CM BK
/-! ### lists -/
theorem nd_le {α : Type} [DecidableEq α] : ∀ {l u : List α}, l.Nodup → (∀ x ∈ l, x ∈ u) → l.length ≤ u.length
  | [], _, _, _ => Nat.zero_le _
  | x :: l, u, nd, sub => by
    obtain ⟨nx, nd'⟩ := List.nodup_cons.mp nd
    have hx : x ∈ u := sub x (List.mem_cons_self ..)
    have ih := nd_le (l := l) (u := u.erase x) nd' fun y hy => (List.mem_erase_of_ne fun e : y = x => nx (by rw [← e]; exact hy)).mpr (sub y (List.mem_cons_of_mem _ hy))
    rw [List.length_erase_of_mem hx] at ih
    have : 0 < u.length := List.length_pos_of_mem hx
    show l.length + 1 ≤ _
    omega
theorem sorted_ext : ∀ {l m : List Int}, l.Pairwise (· < ·) → m.Pairwise (· < ·) → (∀ x, x ∈ l ↔ x ∈ m) → l = m
  | [], [], _, _, _ => rfl
  | [], y :: m, _, _, h => absurd ((h y).mpr (List.mem_cons_self ..)) (by simp)
  | x :: l, [], _, _, h => absurd ((h x).mp (List.mem_cons_self ..)) (by simp)
  | x :: l, y :: m, hl, hm, h => by
    obtain ⟨hx, hl'⟩ := List.pairwise_cons.mp hl
    obtain ⟨hy, hm'⟩ := List.pairwise_cons.mp hm
    have e : x = y := by
      rcases List.mem_cons.mp ((h x).mp (List.mem_cons_self ..)) with e | hxm
      · exact e
      · rcases List.mem_cons.mp ((h y).mpr (List.mem_cons_self ..)) with e | hyl
        · exact e.symm
        · have := hx y hyl; have := hy x hxm; omega
    subst e
    refine congrArg _ (sorted_ext hl' hm' fun z => ⟨fun hz => ?_, fun hz => ?_⟩)
    · rcases List.mem_cons.mp ((h z).mp (List.mem_cons_of_mem _ hz)) with e | q
      · have := hx z hz; omega
      · exact q
    · rcases List.mem_cons.mp ((h z).mpr (List.mem_cons_of_mem _ hz)) with e | q
      · have := hy z hz; omega
      · exact q
theorem strict_of {l : List Int} (h : l.Pairwise (· ≤ ·)) (n : l.Nodup) : l.Pairwise (· < ·) :=
  (h.and n).imp fun {a b} ⟨h1, h2⟩ => by omega
theorem strict_nd {l : List Int} (h : l.Pairwise (· < ·)) : l.Nodup := h.imp fun {a b} h => by omega
/-- some ascending list of these -/
theorem perm_asc {l m : List Int} (p : m.Perm l) (s : m.Pairwise (· ≤ ·)) (n : l.Nodup) : m.Pairwise (· < ·) ∧ ∀ x, x ∈ m ↔ x ∈ l :=
  ⟨strict_of s (p.nodup_iff.mpr n), fun x => p.mem_iff⟩
/-! ### the model -/
structure It where
  kept : List (Int × Int)
  opn : Option (Int × Int)
  rd : Int
def it0 : It := ⟨[(0, 0)], none, 0⟩
structure S where
  it : Str → It
  ov : Int → Option Bool
  bd : Int → List Int
def s0 : S := ⟨fun _ => it0, fun _ => none, fun _ => []⟩
/-- all that fall when s is aborted -/
inductive Reach (σ : S) (s : Int) : Int → Prop
  | refl : Reach σ s s
  | step {t u : Int} : Reach σ s u → u ∈ σ.bd t → σ.ov t = none → Reach σ s t
def IsF (σ : S) (s : Int) (L : List Int) : Prop := L.Pairwise (· < ·) ∧ ∀ t, t ∈ L ↔ Reach σ s t
theorem IsF.uniq {σ : S} {s : Int} {L M : List Int} (a : IsF σ s L) (b : IsF σ s M) : L = M := sorted_ext a.1 b.1 fun x => (a.2 x).trans (b.2 x).symm
open Classical in
noncomputable def fal (σ : S) (s : Int) : List Int := if h : ∃ L, IsF σ s L then Classical.choose h else []
theorem fal_eq {σ : S} {s : Int} {L : List Int} (h : IsF σ s L) : fal σ s = L := by
  have e : ∃ L, IsF σ s L := ⟨L, h⟩
  unfold fal
  rw [dif_pos e]
  exact IsF.uniq (Classical.choose_spec e) h
/-- the ascending list of those in L -/
def IsAsc (L M : List Int) : Prop := M.Pairwise (· < ·) ∧ ∀ x, x ∈ M ↔ x ∈ L
theorem IsAsc.uniq {L M N : List Int} (a : IsAsc L M) (b : IsAsc L N) : M = N := sorted_ext a.1 b.1 fun x => (a.2 x).trans (b.2 x).symm
open Classical in
noncomputable def asc (L : List Int) : List Int := if h : ∃ M, IsAsc L M then Classical.choose h else []
theorem asc_eq {L M : List Int} (h : IsAsc L M) : asc L = M := by
  have e : ∃ M, IsAsc L M := ⟨M, h⟩
  unfold asc
  rw [dif_pos e]
  exact IsAsc.uniq (Classical.choose_spec e) h
def relI (L : List Int) (i : It) : It := match i.opn with
  | some (h, _) => if h ∈ L then { i with opn := none } else i
  | none => i
def fallS (σ : S) (L : List Int) : S := ⟨fun n => relI L (σ.it n), fun t => if t ∈ L then some false else σ.ov t, σ.bd⟩
def lastN {α : Type} (n : Nat) (l : List α) : List α := l.drop (l.length - n)
def setI (s : Int) (k : Nat) (i : It) : It := match i.opn with
  | some (h, v) => if h = s then { i with kept := lastN k (i.kept ++ [(s, v)]), opn := none } else i
  | none => i
def waitsOf (σ : S) (s : Int) : List Int := (σ.bd s).filter fun t => (σ.ov t).isNone
def commS (σ : S) (s : Int) (k : Nat) : S := ⟨fun n => setI s k (σ.it n), fun t => if t = s then some true else σ.ov t, σ.bd⟩
/-- what an outcome holds as its value -/
inductive OV where
  | non
  | int (v : Int)
  | tup (l : List Int)
structure Out where
  word : Str
  met : List Str
  val : OV
  fallen : List Int
def placeM (s w : Int) (h : Option Int) : Str := match h with
  | none => if w < s then "free" else "late"
  | some h => if h = s then "own" else if s < w then "under" else if s < h then "below" else "above"
def lastV (i : It) : Int × Int := i.kept.getLastD (0, 0)
def fixM (kind spot : Str) : Str := if kind = "write" then "put" else if spot = "free" then "last" else "open"
def metM (kind spot : Str) (passed : Bool) : Option Str :=
  if kind = "write" ∧ passed = true then some ("write " ++ spot ++ " passed") else if spot = "free" ∨ spot = "own" then none else some (kind ++ " " ++ spot)
def oldM (i : It) (s : Int) : List Int := (i.kept.filter fun p => decide (p.1 < s)).map (·.2)
def bindM (ends spot ans : Str) : Bool := decide (ends = "after") && if ans = "open" then decide (spot ≠ "own") else decide (ans = "skip") && (decide (spot = "below") || decide (spot = "above"))
def bondS (σ : S) (s h : Int) : S := if h ∈ σ.bd s then σ else { σ with bd := fun t => if t = s then σ.bd s ++ [h] else σ.bd t }
def itS (σ : S) (n : Str) (i : It) : S := { σ with it := fun m => if m = n then i else σ.it m }
def readS (σ : S) (n : Str) (s : Int) : S := if s ≤ (σ.it n).rd then σ else itS σ n { σ.it n with rd := s }
structure Bkm where
  f : Str → Str
  ends : Str
  keep : Nat
def hOf (i : It) : Option Int := i.opn.map (·.1)
def hInt (i : It) : Int := match i.opn with | some (h, _) => h | none => 0
def valM (i : It) (s : Int) (ans : Str) : OV :=
  if ans = "open" then (match i.opn with | some (_, v) => .int v | none => .non) else if ans = "old" then .int ((oldM i s).getLastD 0) else .int (lastV i).2
noncomputable def askM (B : Bkm) (σ : S) (kind : Str) (s : Int) (n : Str) (v : Int) : S × Out :=
  let i := σ.it n
  let spot := placeM s (lastV i).1 (hOf i)
  let e := metM kind spot (decide (i.rd > s))
  let met : List Str := match e with | none => [] | some e => [e]
  let ans : Str := match e with | none => fixM kind spot | some e => B.f e
  if ans = "wait" then (σ, ⟨"wait", met, .tup [hInt i], []⟩)
  else if ans = "wound" then (fallS σ (fal σ (hInt i)), ⟨"wound", met, .non, fal σ (hInt i)⟩)
  else if ans = "abort" ∨ (ans = "old" ∧ oldM i s = []) then (fallS σ (fal σ s), ⟨"abort", met, .non, fal σ s⟩)
  else
    let σ' := if bindM B.ends spot ans = true then bondS σ s (hInt i) else σ
    if kind = "read" then (readS σ' n s, ⟨"read", met, valM i s ans, []⟩)
    else if ans = "skip" then (σ', ⟨"skip", met, .non, []⟩)
    else (itS σ' n { i with opn := some (s, v) }, ⟨"put", met, .non, []⟩)
noncomputable def reqM (B : Bkm) (σ : S) (kind : Str) (s : Int) (n : Str) (v : Int) : S × Out :=
  let r := askM B σ kind s n v
  if r.2.word ≠ "wound" then r
  else if s ∈ r.2.fallen then (r.1, { r.2 with word := "abort" , val := .non })
  else
    let q := askM B r.1 kind s n v
    (q.1, ⟨q.2.word, r.2.met ++ q.2.met, q.2.val, asc (r.2.fallen ++ q.2.fallen)⟩)
inductive Stp where
  | req (kind : Str) (s : Int) (n : Str)
  | com (s : Int)
  | abo (s : Int)
def Stp.who : Stp → Int
  | .req _ s _ => s
  | .com s => s
  | .abo s => s
noncomputable def takeM (B : Bkm) (σ : S) (x : Stp) (v : Int) : S × Out :=
  if (σ.ov x.who).isSome = true then (σ, ⟨"void", [], .non, []⟩)
  else match x with
    | .com s => if waitsOf σ s ≠ [] then (σ, ⟨"wait", [], .tup (asc (waitsOf σ s)), []⟩) else (commS σ s B.keep, ⟨"commit", [], .non, []⟩)
    | .abo s => (fallS σ (fal σ s), ⟨"abort", [], .non, fal σ s⟩)
    | .req k s n => reqM B σ k s n v
/-! ### in the heap -/
inductive F2 {α β : Type} (R : α → β → Prop) : List α → List β → Prop
  | nil : F2 R [] []
  | cons {a b as bs} : R a b → F2 R as bs → F2 R (a :: as) (b :: bs)
section
variable {α β : Type} {R R' : α → β → Prop}
theorem F2.mono (h : ∀ a b, R a b → R' a b) : ∀ {as : List α} {bs : List β}, F2 R as bs → F2 R' as bs
  | _, _, .nil => .nil
  | _, _, .cons r t => .cons (h _ _ r) (t.mono h)
theorem F2.len : ∀ {as : List α} {bs : List β}, F2 R as bs → as.length = bs.length
  | _, _, .nil => rfl
  | _, _, .cons _ t => congrArg (· + 1) t.len
theorem F2.append : ∀ {as as' : List α} {bs bs' : List β}, F2 R as bs → F2 R as' bs' → F2 R (as ++ as') (bs ++ bs')
  | _, _, _, _, .nil, q => q
  | _, _, _, _, .cons r t, q => .cons r (t.append q)
theorem F2.drop (n : Nat) : ∀ {as : List α} {bs : List β}, F2 R as bs → F2 R (as.drop n) (bs.drop n) := by
  induction n with
  | zero => intro as bs h; exact h
  | succ n ih =>
    intro as bs h
    cases h with
    | nil => exact .nil
    | cons r t => exact ih t
theorem F2.take (n : Nat) : ∀ {as : List α} {bs : List β}, F2 R as bs → F2 R (as.take n) (bs.take n) := by
  induction n with
  | zero => intro as bs h; exact .nil
  | succ n ih =>
    intro as bs h
    cases h with
    | nil => exact .nil
    | cons r t => exact .cons r (ih t)
theorem F2.at {i : Nat} : ∀ {as : List α} {bs : List β}, F2 R as bs → ∀ {a : α}, as[i]? = some a → ∃ b, bs[i]? = some b ∧ R a b := by
  induction i with
  | zero =>
    intro as bs h a e
    cases h with
    | nil => cases e
    | cons r t => cases e; exact ⟨_, rfl, r⟩
  | succ i ih =>
    intro as bs h a e
    cases h with
    | nil => cases e
    | cons r t => exact ih t e
theorem F2.at' {i : Nat} : ∀ {as : List α} {bs : List β}, F2 R as bs → ∀ {b : β}, bs[i]? = some b → ∃ a, as[i]? = some a ∧ R a b := by
  induction i with
  | zero =>
    intro as bs h b e
    cases h with
    | nil => cases e
    | cons r t => cases e; exact ⟨_, rfl, r⟩
  | succ i ih =>
    intro as bs h b e
    cases h with
    | nil => cases e
    | cons r t => exact ih t e
theorem F2.snoc {as : List α} {bs : List β} {a : α} {b : β} (h : F2 R as bs) (r : R a b) : F2 R (as ++ [a]) (bs ++ [b]) := h.append (.cons r .nil)
end
/-- a pair of ints -/
def VerAt (H : Hp) (p : Addr) (v : Int × Int) : Prop := H p = some (.tup [.int v.1, .int v.2])
def KeptAt (H : Hp) (k : Addr) (vs : List (Int × Int)) : Prop := ∃ ps : List Addr, H k = some (.tup (ps.map V.ref)) ∧ F2 (VerAt H) ps vs
def hV (i : It) : V := match i.opn with | some (h, _) => .int h | none => .non
def vV (i : It) : V := match i.opn with | some (_, v) => .int v | none => .non
def ItAt (C : Addr) (H : Hp) (p : Addr) (i : It) : Prop := ∃ dx k, H p = some (.ins C dx [("kept", .ref k), ("holder", hV i), ("value", vV i), ("reader", .int i.rd)]) ∧ KeptAt H k i.kept
/-- an item that can be -/
structure WfI (U : List Int) (i : It) : Prop where
  ne : i.kept ≠ []
  le : i.kept.length ≤ 20
  ho : ∀ h v, i.opn = some (h, v) → h ∈ U
/-- at d a dict: what stands at each key -/
structure DR (H : Hp) (d : Addr) (P : Key → Option V → Prop) : Prop where
  ex : ∃ kvs : List (Key × V), H d = some (.dK kvs) ∧ (kvs.map (·.1)).Nodup ∧ ∀ k, P k (valV kvs k)
def ovS (b : Bool) : Str := if b then "committed" else "aborted"
def PStore (C : Addr) (U : List Int) (N : List Str) (H : Hp) (σ : S) : Key → Option V → Prop
  | .inr n, some v => ∃ q, v = .ref q ∧ n ∈ N ∧ ItAt C H q (σ.it n) ∧ WfI U (σ.it n)
  | .inr n, none => σ.it n = it0
  | .inl _, o => o = none
def POver (U : List Int) (σ : S) : Key → Option V → Prop
  | .inl t, some v => ∃ b, v = .str (ovS b) ∧ t ∈ U ∧ σ.ov t = some b
  | .inl t, none => σ.ov t = none
  | .inr _, o => o = none
def PBond (U : List Int) (H : Hp) (σ : S) : Key → Option V → Prop
  | .inl t, some v => ∃ q, v = .ref q ∧ t ∈ U ∧ H q = some (.tup ((σ.bd t).map V.int)) ∧ (σ.bd t).Nodup ∧ ∀ h ∈ σ.bd t, h ∈ U
  | .inl t, none => σ.bd t = []
  | .inr _, o => o = none
structure StAt (CS CI : Addr) (U : List Int) (N : List Str) (H : Hp) (p : Addr) (σ : S) : Prop where
  ex : ∃ dx ds dv db, H p = some (.ins CS dx [("store", .ref ds), ("over", .ref dv), ("bonds", .ref db)]) ∧ ds ≠ dv ∧ ds ≠ db ∧ dv ≠ db ∧
    DR H ds (PStore CI U N H σ) ∧ DR H dv (POver U σ) ∧ DR H db (PBond U H σ)
section
variable {H H' : Hp} {C CS CI p q k d : Addr} {i : It} {U : List Int} {N : List Str} {σ : S} {P P' : Key → Option V → Prop}
theorem VerAt.same {v : Int × Int} (h : VerAt H p v) (s : Same H H') : VerAt H' p v := s _ _ h
theorem KeptAt.same {vs : List (Int × Int)} (h : KeptAt H k vs) (s : Same H H') : KeptAt H' k vs := by
  obtain ⟨ps, h1, h2⟩ := h
  exact ⟨ps, s _ _ h1, h2.mono fun a b r => r.same s⟩
theorem ItAt.same (h : ItAt C H p i) (s : Same H H') : ItAt C H' p i := by
  obtain ⟨dx, k, h1, h2⟩ := h
  exact ⟨dx, k, s _ _ h1, h2.same s⟩
theorem DR.mono (h : DR H d P) (s : Same H H') (m : ∀ k o, P k o → P' k o) : DR H' d P' := by
  obtain ⟨kvs, h1, h2, h3⟩ := h.ex
  exact ⟨kvs, s _ _ h1, h2, fun k => m _ _ (h3 k)⟩
theorem PStore.same (s : Same H H') : ∀ k o, PStore C U N H σ k o → PStore C U N H' σ k o
  | .inr _, some _, ⟨q, h1, h2, h3, h4⟩ => ⟨q, h1, h2, h3.same s, h4⟩
  | .inr _, none, h => h
  | .inl _, _, h => h
theorem PBond.same (s : Same H H') : ∀ k o, PBond U H σ k o → PBond U H' σ k o
  | .inl _, some _, ⟨q, h1, h2, h3, h4⟩ => ⟨q, h1, h2, s _ _ h3, h4⟩
  | .inl _, none, h => h
  | .inr _, _, h => h
theorem StAt.same (h : StAt CS CI U N H p σ) (s : Same H H') : StAt CS CI U N H' p σ := by
  obtain ⟨dx, ds, dv, db, h1, n1, n2, n3, h2, h3, h4⟩ := h.ex
  exact ⟨dx, ds, dv, db, s _ _ h1, n1, n2, n3, h2.mono s (PStore.same s), h3.mono s fun _ _ z => z, h4.mono s (PBond.same s)⟩
end
/-- the value's object -/
def OvAt (H : Hp) (v : V) : OV → Prop
  | .non => v = .non
  | .int z => v = .int z
  | .tup l => ∃ q, v = .ref q ∧ H q = some (.tup (l.map V.int))
def OutAt (H : Hp) (p : Addr) (o : Out) : Prop := ∃ m v f, H p = some (.tup [.str o.word, .ref m, v, .ref f]) ∧ H m = some (.tup (o.met.map V.str)) ∧ OvAt H v o.val ∧ H f = some (.tup (o.fallen.map V.int))
theorem OvAt.same {H H' : Hp} {v : V} (s : Same H H') : ∀ {o : OV}, OvAt H v o → OvAt H' v o
  | .non, h => h
  | .int _, h => h
  | .tup _, ⟨q, h1, h2⟩ => ⟨q, h1, s _ _ h2⟩
theorem OutAt.same {H H' : Hp} {p : Addr} {o : Out} (h : OutAt H p o) (s : Same H H') : OutAt H' p o := by
  obtain ⟨m, v, f, h1, h2, h3, h4⟩ := h
  exact ⟨m, v, f, s _ _ h1, s _ _ h2, h3.same s, s _ _ h4⟩
/-- the pair (state, outcome) -/
def PairAt (CS CI : Addr) (U : List Int) (N : List Str) (H : Hp) (p : Addr) (r : S × Out) : Prop := ∃ a b, H p = some (.tup [.ref a, .ref b]) ∧ StAt CS CI U N H a r.1 ∧ OutAt H b r.2
end MIR

namespace K27
open PySem L2 SI CM BK OWN MIR StX TX TL
section
variable {w : World} {K : PySem.W.Frag} {mg : Str → Option Value} {base : Heap} (T : Txt w K mg)
def spFits (K : PySem.W.Frag) : Sp := fun vs H Q _ => ∃ (nm an : Str) (a : Addr) (l u o s : Bool), vs = [.str nm, .str an, .ref a] ∧ SqL K H a [.bl l, .bl u, .bl o, .bl s] ∧ ∀ (H' : Hp) (r : Bool), Same H H' → (an = "abort" → r = true) → Q (.bl r) H'
theorem ok_fits : FnOk PP w K mg base CX0 1 T.f_law_fits T.d_law_fits ["_law_name", "_law_answer", "_law_flags"] (spFits K) := by
  refine T.F_law_fits.ok sc_law_fits (fun vs H Q E h => ?_) (fun cdv A outer s H vs Q E hr h => ?_)
  · obtain ⟨nm, an, a, l, u, o, s, rfl, _⟩ := h
    rfl
  · obtain ⟨nm, an, a, l, u, o, sk, rfl, ha, k⟩ := h
    refine ⟨_, pss_cons (ps_asg (pv 2) (pg_unl rfl (pgs_cons (pg_name (i := 3) sc_law_fits.nd rfl (.inl rfl)) (pgs_cons (pg_name (i := 4) sc_law_fits.nd rfl (.inl rfl)) (pgs_cons (pg_name (i := 5) sc_law_fits.nd rfl (.inl rfl)) (pgs_cons (pg_name (i := 6) sc_law_fits.nd rfl (.inl rfl)) pgs_nil))))))
 (pss_cons (ps_if (pt_cmpR op_in_seq (pv 1) (pe_lst (pa_cons pe_str (pa_cons pe_str (pa_cons pe_str pa_nil)))) rfl)
 (pss_one (ps_ret pe_bl))
 pss_nil)
 (pss_cons (ps_if (pt_cmpR op_in_seq (pv 0) (pe_lst (pa_cons pe_str (pa_cons pe_str pa_nil))) rfl)
 (pss_one (ps_ret (pe_and (pe_cmpR op_eq (pv 1) pe_str (nomark _)) (pe_one (pv 5)))))
 pss_nil)
 (pss_cons (ps_if (pt_cmpR op_eq (pv 0) pe_str (nomark _))
 (pss_one (ps_ret (pe_and (pe_cmpR op_eq (pv 1) pe_str (nomark _)) (pe_one (pe_not (pv 4))))))
 pss_nil)
 (pss_cons (ps_if (pt_cmpR op_eq (pv 0) pe_str (nomark _))
 (pss_one (ps_ret (pe_and (pe_cmpR op_eq (pv 1) pe_str (nomark _)) (pe_one (pv 3)))))
 pss_nil)
 (pss_cons (ps_if (pt_cmpR op_in_seq (pv 0) (pe_lst (pa_cons pe_str (pa_cons pe_str pa_nil))) rfl)
 (pss_one (ps_ret (pv 6)))
 pss_nil)
 (pss_cons (ps_if (pt_cmpR op_eq (pv 0) pe_str (nomark _))
 (pss_one (ps_ret (pe_and (pv 4) (pe_one (pv 6)))))
 pss_nil)
 (pss_one (ps_ret (pe_and (pe_cmpR op_in_seq (pv 0) (pe_lst (pa_cons pe_str (pa_cons pe_str pa_nil))) rfl) (pe_one (pe_not (pv 3)))))))))))), ?_⟩
    have two : 2 ≤ sizeLine := by decide
    have three : 3 ≤ sizeLine := by decide
    refine ⟨_, rfl, a, _, rfl, ha, rfl, _, _, rfl, _, _, rfl, _, _, rfl, _, _, rfl, rfl, ?_⟩
    refine ⟨_, rfl, three, fun t nt => ⟨t, _, rfl, .inl (SqL.of upd_same), rfl, rfl, _, rfl, ?_⟩⟩
    have s1 := same_new (o := .lst [.str "wait", .str "wound", .str "abort"]) (Same.refl H) nt
    generalize upd H t (.lst [.str "wait", .str "wound", .str "abort"]) = H1 at s1
    rw [show inV (V.str an) [V.str "wait", V.str "wound", V.str "abort"] = decide (an ∈ (["wait", "wound", "abort"] : List Str)) from inV_str an ["wait", "wound", "abort"]]
    by_cases c1 : an ∈ (["wait", "wound", "abort"] : List Str)
    · rw [decide_eq_true c1]
      exact iteT (k H1 true s1 fun _ => rfl)
    rw [decide_eq_false c1]
    have fin : ∀ (H' : Hp) (r : Bool), Same H H' → Q (.bl r) H' := fun H' r s => k H' r s fun e => absurd (by rw [e]; decide +kernel) c1
    refine iteF ⟨_, rfl, two, fun t nt => ⟨t, _, rfl, .inl (SqL.of upd_same), rfl, rfl, _, rfl, ?_⟩⟩
    have s2 := same_new (o := .lst [.str "read late", .str "read under"]) s1 nt
    generalize upd H1 t (.lst [.str "read late", .str "read under"]) = H2 at s2
    cases inV (V.str nm) [V.str "read late", V.str "read under"] with
    | true =>
      refine iteT ⟨_, rfl, rfl, _, rfl, ?_⟩
      rw [ds]
      by_cases c : an = "old"
      · rw [decide_eq_true c]; exact iteT ⟨_, rfl, fin H2 _ s2⟩
      · rw [decide_eq_false c]; exact iteF (fin H2 _ s2)
    | false =>
    refine iteF ⟨_, rfl, rfl, _, rfl, ?_⟩
    rw [ds]
    by_cases c2 : nm = "read below"
    · rw [decide_eq_true c2]
      refine iteT ⟨_, rfl, rfl, _, rfl, ?_⟩
      rw [ds]
      by_cases c : an = "last"
      · rw [decide_eq_true c]; exact iteT ⟨_, rfl, _, rfl, fin H2 _ s2⟩
      · rw [decide_eq_false c]; exact iteF (fin H2 _ s2)
    rw [decide_eq_false c2]
    refine iteF ⟨_, rfl, rfl, _, rfl, ?_⟩
    rw [ds]
    by_cases c3 : nm = "read above"
    · rw [decide_eq_true c3]
      refine iteT ⟨_, rfl, rfl, _, rfl, ?_⟩
      rw [ds]
      by_cases c : an = "open"
      · rw [decide_eq_true c]; exact iteT ⟨_, rfl, fin H2 _ s2⟩
      · rw [decide_eq_false c]; exact iteF (fin H2 _ s2)
    rw [decide_eq_false c3]
    refine iteF ⟨_, rfl, two, fun t nt => ⟨t, _, rfl, .inl (SqL.of upd_same), rfl, rfl, _, rfl, ?_⟩⟩
    have s3 := same_new (o := .lst [.str "write late", .str "write under"]) s2 nt
    generalize upd H2 t (.lst [.str "write late", .str "write under"]) = H3 at s3
    cases inV (V.str nm) [V.str "write late", V.str "write under"] with
    | true => exact iteT ⟨_, rfl, fin H3 _ s3⟩
    | false =>
    refine iteF ⟨_, rfl, rfl, _, rfl, ?_⟩
    rw [ds]
    by_cases c4 : nm = "write below"
    · rw [decide_eq_true c4]
      refine iteT ⟨_, rfl, _, rfl, ?_⟩
      cases u with
      | true => exact iteT ⟨_, rfl, fin H3 _ s3⟩
      | false => exact iteF (fin H3 _ s3)
    rw [decide_eq_false c4]
    refine iteF ⟨_, rfl, two, fun t nt => ⟨t, _, rfl, .inl (SqL.of upd_same), rfl, rfl, _, rfl, ?_⟩⟩
    have s4 := same_new (o := .lst [.str "write own passed", .str "write above passed"]) s3 nt
    generalize upd H3 t (.lst [.str "write own passed", .str "write above passed"]) = H4 at s4
    cases inV (V.str nm) [V.str "write own passed", V.str "write above passed"] with
    | true => exact iteT ⟨_, rfl, _, rfl, fin H4 _ s4⟩
    | false => exact iteF (fin H4 _ s4)
end
end K27

namespace K27
open PySem L2 SI CM BK OWN MIR StX TX TL
section
variable {w : World} {K : PySem.W.Frag} {mg : Str → Option Value} {base : Heap} (T : Txt w K mg)
def spSound : Sp := fun vs H Q _ => ∃ (c k : Int) (r : Str), vs = [.int c, .str r, .int k] ∧ ∀ (H' : Hp) (p : Addr) (f : Str → Str), Same H H' → H p = none → H' p = some (.dK (tabS ENT f)) → (∀ e ∈ ENT, f e ∈ chs e) → Q (.ref p) H'
theorem abort_in : ∀ e ∈ ENT, ("abort" : Str) ∈ chs e := by decide +kernel
theorem ok_sound : FnOk PP w K mg base CX0 2 T.f_law_sound T.d_law_sound ["_law_cell_here", "_law_rule", "_law_kept"] spSound := by
  refine T.F_law_sound.ok sc_law_sound (fun vs H Q E h => ?_) (fun cdv A outer s H vs Q E hr h => ?_)
  · obtain ⟨c, k, r, rfl, _⟩ := h
    rfl
  · obtain ⟨c, kept, r, rfl, k⟩ := h
    refine ⟨_, pss_cons (ps_set (i := 3) sc_law_sound.nd rfl (.inl rfl) (pe_call (ok_row T) (hr.mono (by decide)) (by rfl) T.g_law_row T.F_law_row.kp (b_law_row T) .nil pass0 (pa_cons (pv 0) (pa_cons pe_int (pa_cons pe_int pa_nil)))))
 (C8.pss_cut (ps_set (i := 4) sc_law_sound.nd rfl (.inl rfl) (pe_and (pe_cmpR op_eq (pv 1) pe_str (nomark _)) (pe_one (pe_cmpR op_eq (pe_op op_mod (pe_ix ix_list (pv 3) pe_int (fun _ _ => rfl)) pe_int) pe_int (nomark _)))))
 (C8.pss_cut (ps_set (i := 5) sc_law_sound.nd rfl (.inl rfl) (pe_and (pe_cmpR op_eq (pv 1) pe_str (nomark _)) (pe_one (pe_cmpR op_eq (pe_op op_mod (pe_ix ix_list (pv 3) pe_int (fun _ _ => rfl)) pe_int) pe_int (nomark _)))))
 (pss_cons (ps_set (i := 6) sc_law_sound.nd rfl (.inl rfl) (pe_cmpR op_eq (pe_op op_mod (pe_ix ix_list (pv 3) pe_int (fun _ _ => rfl)) pe_int) pe_int (nomark _)))
 (C8.pss_cut (ps_set (i := 7) sc_law_sound.nd rfl (.inr rfl) (pe_lst (pa_cons (pv 4) (pa_cons (pv 5) (pa_cons (pe_or (pv 6) (pe_one (pe_cmpR op_eq (pv 2) pe_int (nomark _)))) (pa_cons (pe_or (pe_cmpR op_eq (pv 2) pe_int (nomark _)) (pe_one (pe_not (pv 6)))) pa_nil))))))
 (pss_cons (ps_set (i := 8) sc_law_sound.nd rfl (.inl rfl) pe_dnewK)
 (pss_cons (ps_set (i := 9) sc_law_sound.nd rfl (.inr rfl) (pe_call0 (ok_entries T) (hr.mono (by decide)) (by rfl) T.g_law_entries T.F_law_entries.kp (b_law_entries T) .nil pass0))
 (C8.pss_cut (ps_for PassesOwn.never rfl (pi_range1 rfl T.n_range (pa_cons pe_int pa_nil)) (pg_name (i := 10) sc_law_sound.nd rfl (.inr rfl))
 (pss_cons (ps_set (i := 11) sc_law_sound.nd rfl (.inl rfl) (pe_call (ok_choices T) (hr.mono (by decide)) (by rfl) T.g_law_choices T.F_law_choices.kp (b_law_choices T) .nil pass0 (pa_cons (pe_ix ix_list (pv 9) (pv 10) (fun _ _ => rfl)) pa_nil)))
 (pss_cons (ps_setLc (i := 13) (own := [("_law_answer", 12)]) (g := gName 12) (by rfl) sc_law_sound.nd rfl rfl (sw_true rfl rfl rfl (by decide +kernel)) (pi_list (pv 11)) (blkOk_by (N := ["_law_cell_here", "_law_rule", "_law_kept", "_law_draws", "_law_lifted", "_law_under", "_law_older", "_law_flags", "_law_table_here", "_law_names", "_law_k", "_law_options", "_law_answer", "_law_good"]) (sc := defScope s_law_sound) (by decide +kernel)) (fun _ _ _ _ _ => pg_name (i := 12) sc_law_sound.nd rfl (Or.inl rfl)) (fun _ _ _ _ _ => pts_one (pt_val (pe_call (ok_fits T) (hr.mono (by decide)) (by rfl) T.g_law_fits T.F_law_fits.kp (b_law_fits T) .nil pass0 (pa_cons (pe_ix (r := rIxL K) ix_list (pv 9) (pv 10) (fun _ _ => rfl)) (pa_cons (pv 12) (pa_cons (pv 7) pa_nil)))))) (fun _ _ _ _ _ => (pv 12)))
 (pss_cons (ps_dput (hu_of hr) (pv 8) (pe_ix ix_list (pv 9) (pv 10) (fun _ _ => rfl)) (pe_ix ix_list (pv 13) pe_int (fun _ _ => rfl)) rfl)
 (pss_one (ps_if (pt_cmpR op_gt (pe_op op_mod (pe_ix ix_list (pv 3) (pv 10) (fun _ _ => rfl)) pe_int) pe_int (nomark _))
 (pss_one (ps_dput (hu_of hr) (pv 8) (pe_ix ix_list (pv 9) (pv 10) (fun _ _ => rfl)) (pe_ix ix_list (pv 13) (pe_op op_mod (pe_callTy call_int1 (by rfl) T.n_int (by decide +kernel) (pa_cons (pe_op op_fdiv (pe_ix ix_list (pv 3) (pv 10) (fun _ _ => rfl)) pe_int) pa_nil)) (pe_callB call_len_seq (by rfl) T.n_len PySem.boot_len (pa_cons (pv 13) pa_nil))) (fun _ _ => rfl)) rfl))
 pss_nil))))))
 (pss_one (ps_ret (pv 8)))))))))), ?_⟩
    have four : 4 ≤ sizeLine := by decide
    have p2 : (0 : Int) < 2 := by decide
    have p3 : (0 : Int) < 3 := by decide
    have di : ∀ i j : Int, decide (V.int i = V.int j) = decide (i = j) := fun i j => decide_eq_decide.mpr ⟨V.int.inj, congrArg _⟩
    refine ⟨_, rfl, c, 17, 60, rfl, by decide, by decide, by decide, fun H1 R dr s1 nR hR hl hd => ?_⟩
    have at_ : ∀ j : Nat, j < 17 → atI (dr.map V.int) (j : Int) = some (.int (dr.getD j 0)) := fun j hj => atI_nat (by rw [List.getElem?_map, List.getD_eq_getElem?_getD, List.getElem?_eq_getElem (by omega)]; rfl)
    refine ⟨fun τ H' => ∃ l : Bool, τ = [some (.int c), some (.str r), some (.int kept), some (.ref R), some (.bl l), none, none, none, none, none, none, none, none, none] ∧ H' = H1, ?_, ?_⟩
    · refine ⟨_, rfl, rfl, _, rfl, ?_⟩
      rw [ds]
      by_cases e : r = "after"
      · rw [decide_eq_true e]
        exact iteT ⟨_, rfl, R, _, _, _, rfl, rfl, SqL.of hR, at_ 14 (by decide), _, _, rfl, rfl, p2, rfl, ⟨_, rfl, rfl⟩⟩
      · rw [decide_eq_false e]
        exact iteF ⟨_, rfl, rfl⟩
    rintro τ H2 ⟨l, rfl, rfl⟩
    refine ⟨fun τ H' => ∃ u : Bool, τ = [some (.int c), some (.str r), some (.int kept), some (.ref R), some (.bl l), some (.bl u), none, none, none, none, none, none, none, none] ∧ H' = H2, ?_, ?_⟩
    · refine ⟨_, rfl, rfl, _, rfl, ?_⟩
      rw [ds]
      by_cases e : r = "after"
      · rw [decide_eq_true e]
        exact iteT ⟨_, rfl, R, _, _, _, rfl, rfl, SqL.of hR, at_ 15 (by decide), _, _, rfl, rfl, p2, rfl, ⟨_, rfl, rfl⟩⟩
      · rw [decide_eq_false e]
        exact iteF ⟨_, rfl, rfl⟩
    rintro τ H3 ⟨u, rfl, rfl⟩
    refine ⟨_, rfl, R, _, _, _, rfl, rfl, SqL.of hR, at_ 16 (by decide), _, _, rfl, rfl, p2, rfl, ?_⟩
    generalize decide (V.int (dr.getD 16 0 % 2) = V.int 1) = o
    refine ⟨fun τ H' => ∃ (F : Addr) (x y : Bool), τ = [some (.int c), some (.str r), some (.int kept), some (.ref R), some (.bl l), some (.bl u), some (.bl o), some (.ref F), none, none, none, none, none, none] ∧ H' F = some (.lst [.bl l, .bl u, .bl x, .bl y]) ∧ Same H3 H', ?_, ?_⟩
    · refine ⟨_, rfl, _, rfl, _, rfl, o, rfl, ?_⟩
      have k7 : ∀ x y : Bool, four = four → ∀ (H5 : Hp), H5 = H3 → 4 ≤ sizeLine ∧ ∀ F, H5 F = none → ∃ (F' : Addr) (x' y' : Bool), [some (.int c), some (.str r), some (.int kept), some (.ref R), some (.bl l), some (.bl u), some (.bl o), some (.ref F), none, none, none, none, none, none] = [some (V.int c), some (.str r), some (.int kept), some (.ref R), some (.bl l), some (.bl u), some (.bl o), some (.ref F'), none, none, none, none, none, none] ∧ (upd H5 F (.lst [.bl l, .bl u, .bl x, .bl y])) F' = some (.lst [.bl l, .bl u, .bl x', .bl y']) ∧ Same H3 (upd H5 F (.lst [.bl l, .bl u, .bl x, .bl y])) := fun x y _ H5 e => ⟨four, fun F nF => ⟨F, x, y, rfl, upd_same, by rw [e] at nF ⊢; exact same_new (Same.refl H3) nF⟩⟩
      cases o with
      | true =>
        refine iteT ⟨_, rfl, rfl, _, rfl, ?_⟩
        cases decide (V.int kept = V.int 1) with
        | true => exact iteT (k7 _ _ rfl _ rfl)
        | false => exact iteF ⟨_, rfl, _, rfl, k7 _ _ rfl _ rfl⟩
      | false =>
        refine iteF ⟨_, rfl, rfl, _, rfl, rfl, _, rfl, ?_⟩
        cases decide (V.int kept = V.int 1) with
        | true => exact iteT (k7 _ _ rfl _ rfl)
        | false => exact iteF ⟨_, rfl, _, rfl, k7 _ _ rfl _ rfl⟩
    rintro τ H4 ⟨F, x, y, rfl, hF, s34⟩
    refine fun D nD => ?_
    have s4 := s1.trans s34
    have s5 := same_new (o := .dK []) s4 nD
    have s45 := same_new (o := .dK []) (Same.refl H4) nD
    have hD0 : (upd H4 D (.dK [])) D = some (.dK []) := upd_same
    have fD : H D = none := s4.free nD
    generalize upd H4 D (.dK []) = H5 at s5 s45 hD0
    refine ⟨rfl, fun H6 N s56 nN hN => ?_⟩
    have s46 := s45.trans s56
    have hD6 := s56 _ _ hD0
    have hF6 := s46 _ _ hF
    have hR6 := (s34.trans s46) _ _ hR
    have FD : F ≠ D := fun z => by rw [z, hD6] at hF6; cases hF6
    have ND : N ≠ D := fun z => by rw [z, hD6] at hN; cases hN
    have RD : R ≠ D := fun z => by rw [z, hD6] at hR6; cases hR6
    refine ⟨fun τ H' => ∃ (v10 v11 v12 v13 : Option V) (f : Str → Str), τ = [some (.int c), some (.str r), some (.int kept), some (.ref R), some (.bl l), some (.bl u), some (.bl o), some (.ref F), some (.ref D), some (.ref N), v10, v11, v12, v13] ∧ H' D = some (.dK (tabS ENT f)) ∧ (∀ e ∈ ENT, f e ∈ chs e) ∧ (∀ b o, b ≠ D → H6 b = some o → H' b = some o), ?_, ?_⟩
    · refine ⟨14, rfl, by decide, by decide, for_range (lo := 0) (n := 14) (fun i τ H' => ∃ (v10 v11 v12 v13 : Option V) (f : Str → Str), τ = [some (.int c), some (.str r), some (.int kept), some (.ref R), some (.bl l), some (.bl u), some (.bl o), some (.ref F), some (.ref D), some (.ref N), v10, v11, v12, v13] ∧ H' D = some (.dK (tabS (ENT.take i) f)) ∧ (∀ e ∈ ENT.take i, f e ∈ chs e) ∧ (∀ b o, b ≠ D → H6 b = some o → H' b = some o))
        ⟨none, none, none, none, fun _ => "", rfl, hD6, (fun e h => by cases h), fun _ _ _ z => z⟩ ?_ ?_⟩
      · rintro i τ H7 hi ⟨v10, v11, v12, v13, f, rfl, hD7, hf, k7⟩
        have hi' : i < ENT.length := hi
        have hN7 := k7 _ _ ND hN
        have hR7 := k7 _ _ RD hR6
        have hF7 := k7 _ _ FD hF6
        have eN : atI (ENT.map V.str) (0 + (i : Int)) = some (.str ENT[i]) := by
          rw [Int.zero_add]
          exact atI_nat (by rw [List.getElem?_map, List.getElem?_eq_getElem hi']; rfl)
        have eR : atI (dr.map V.int) (0 + (i : Int)) = some (.int (dr.getD i 0)) := by
          rw [Int.zero_add]; exact at_ i (by omega)
        have heE : ENT[i] ∈ ENT := List.getElem_mem hi'
        have hn : ENT[i] ∉ ENT.take i := fun z => by
          obtain ⟨jj, hjj, ej⟩ := List.mem_iff_getElem.mp z
          rw [List.length_take] at hjj
          rw [List.getElem_take] at ej
          exact (List.pairwise_iff_getElem.mp ent_nodup) jj i (by omega) hi' (by omega) ej
        have et : ENT.take (i + 1) = ENT.take i ++ [ENT[i]] := by rw [List.take_add_one, List.getElem?_eq_getElem hi'] <;> rfl
        generalize ENT[i] = e at eN heE hn et
        refine ⟨_, rfl, _, rfl, N, _, _, _, rfl, rfl, SqL.of hN7, eN, _, rfl, fun H8 P s78 nP hP => ?_⟩
        have cl := chs_len e
        refine ⟨_, rfl, P, rfl, ⟨_, SqL.of hP⟩, fun G nG => lc_list (xs := (chs e).map V.str) (fun j H' => ∃ gs : List Str, H' G = some (.lst (gs.map V.str)) ∧ gs.length ≤ j ∧ (∀ g ∈ gs, g ∈ chs e) ∧ (("abort" : Str) ∈ (chs e).take j → ("abort" : Str) ∈ gs) ∧ Same H8 H')
          ⟨[], upd_same, Nat.le_refl _, (fun g h => by cases h), (fun h => by cases h), same_new (Same.refl H8) nG⟩ (fun j H' _ ⟨_, _, _, _, _, s⟩ => SqL.of (s _ _ hP)) ?_ ?_⟩
        · rintro j x2 H9 hx ⟨gs, hG, hgl, hgs, hab, s89⟩
          rw [List.getElem?_map] at hx
          cases hq : (chs e)[j]? with
          | none => rw [hq] at hx; cases hx
          | some an =>
          rw [hq] at hx
          cases hx
          have hj : j < (chs e).length := (List.getElem?_eq_some_iff.mp hq).1
          have ec : (chs e).take (j + 1) = (chs e).take j ++ [an] := by rw [List.take_add_one, hq]; rfl
          have s79 := s78.trans s89
          refine ⟨rfl, _, rfl, _, rfl, N, _, _, _, rfl, rfl, SqL.of (s79 _ _ hN7), eN, _, rfl, _, rfl, e, an, F, l, u, x, y, rfl, SqL.of (s79 _ _ hF7), fun H' rr sm har => ⟨_, rfl, ?_⟩⟩
          have hG' := sm _ _ hG
          cases rr with
          | true =>
            refine iteT ⟨_, rfl, _, hG', small1000 (by rw [List.length_map]; omega), gs ++ [an], by rw [upd_same, List.map_append]; rfl, by rw [List.length_append]; show gs.length + 1 ≤ _; omega, fun g hg => ?_, fun h => ?_, fun b o z => ?_⟩
            · rcases List.mem_append.mp hg with h | h
              · exact hgs g h
              · rw [List.mem_singleton.mp h]; exact List.mem_of_getElem? hq
            · rw [ec] at h
              rcases List.mem_append.mp h with h | h
              · exact List.mem_append.mpr (.inl (hab h))
              · exact List.mem_append.mpr (.inr h)
            · rw [upd_ne (ne_of_none z nG)]; exact (s89.trans sm) b o z
          | false =>
            refine iteF ⟨gs, hG', by omega, hgs, fun h => ?_, s89.trans sm⟩
            rw [ec] at h
            rcases List.mem_append.mp h with h | h
            · exact hab h
            · have := har (List.mem_singleton.mp h).symm; cases this
        rintro H9 ⟨gs, hG, hgl, hgs, hab, s89⟩
        rw [List.length_map] at hgl hab
        rw [List.take_length] at hab
        have hab := hab (abort_in e heE)
        have hgp : 0 < gs.length := List.length_pos_of_mem hab
        have s79 := s78.trans s89
        have hD9 := s79 _ _ hD7
        have hN9 := s79 _ _ hN7
        have hR9 := s79 _ _ hR7
        have GD : G ≠ D := fun z => by rw [z, hD9] at hG; cases hG
        have eg0 : atI (gs.map V.str) 0 = some (.str gs[0]) := atI_nat (j := 0) (by rw [List.getElem?_map, List.getElem?_eq_getElem hgp]; rfl)
        have hg0 : gs[0] ∈ chs e := hgs _ (List.getElem_mem hgp)
        generalize gs[0] = g0 at eg0 hg0
        refine ⟨_, rfl, G, _, _, _, rfl, rfl, SqL.of hG, eg0, _, rfl, _, rfl, _, rfl, N, _, _, _, rfl, rfl, SqL.of hN9, eN, D, _, rfl, DPut.k (k := Sum.inr e) hD9 (by rw [tab_len, List.length_take]; exact small1000 (by rw [ent_len]; omega)), ?_⟩
        rw [put_new (g := V.str) (a := g0) hn]
        have k9 : ∀ b o, b ≠ D → H6 b = some o → (upd H9 D (.dK (tab V.str (ENT.take i ++ [e]) (put f e g0)))) b = some o := fun b o hb z => by rw [upd_ne hb]; exact s79 _ _ (k7 b o hb z)
        have hD10 : (upd H9 D (.dK (tab V.str (ENT.take i ++ [e]) (put f e g0)))) D = some (.dK (tab V.str (ENT.take i ++ [e]) (put f e g0))) := upd_same
        have hG10 : (upd H9 D (.dK (tab V.str (ENT.take i ++ [e]) (put f e g0)))) G = some (.lst (gs.map V.str)) := by rw [upd_ne GD]; exact hG
        generalize (upd H9 D (.dK (tab V.str (ENT.take i ++ [e]) (put f e g0)))) = H10 at k9 hD10 hG10
        have okf : ∀ g1, g1 ∈ chs e → ∀ e' ∈ ENT.take (i + 1), put f e g1 e' ∈ chs e' := fun g1 h1 e' he' => by
          rw [et] at he'
          by_cases q : e' = e
          · rw [q, put_same]; exact h1
          · rw [put_ne q]
            rcases List.mem_append.mp he' with h | h
            · exact hf e' h
            · exact absurd (List.mem_singleton.mp h) q
        refine ⟨_, rfl, _, rfl, R, _, _, _, rfl, rfl, SqL.of (k9 _ _ RD hR6), eR, _, _, rfl, rfl, p3, _, _, rfl, rfl, _, rfl, ite2 (fun _ => ?_) (fun _ => ?_)⟩
        · have pg : (0 : Int) < ((gs.map V.str).length : Nat) := by rw [List.length_map]; omega
          have m0 := Int.emod_nonneg (dr.getD i 0 / 3) (Int.ne_of_gt pg)
          have m1 := Int.emod_lt_of_pos (dr.getD i 0 / 3) pg
          obtain ⟨j, hj⟩ := Int.eq_ofNat_of_zero_le m0
          have hj2 : j < gs.length := by rw [hj, List.length_map] at m1; omega
          have eg1 : atI (gs.map V.str) (dr.getD i 0 / 3 % (((gs.map V.str).length : Nat) : Int)) = some (.str gs[j]) := by
            rw [hj]; exact atI_nat (by rw [List.getElem?_map, List.getElem?_eq_getElem hj2]; rfl)
          have hg1 : gs[j] ∈ chs e := hgs _ (List.getElem_mem hj2)
          generalize gs[j] = g1 at eg1 hg1
          refine ⟨_, rfl, _, rfl, _, rfl, R, _, _, _, rfl, rfl, SqL.of (k9 _ _ RD hR6), eR, _, _, rfl, rfl, ⟨by decide, by decide⟩, .inl ⟨_, rfl, _, rfl, G, _, rfl, .inl (SqL.of hG10), _, _, rfl, rfl, pg, G, _, _, _, rfl, rfl, SqL.of hG10, eg1, ?_⟩⟩
          refine ⟨_, rfl, _, rfl, _, rfl, N, _, _, _, rfl, rfl, SqL.of (k9 _ _ ND hN), eN, D, _, rfl, DPut.k (k := Sum.inr e) hD10 (by rw [tab_len, List.length_append, List.length_take]; exact small1000 (by rw [ent_len]; show min i 14 + 1 ≤ 1000; omega)), ?_⟩
          rw [put_in (g := V.str) (List.mem_append.mpr (.inr (List.mem_singleton.mpr rfl)))]
          have epp : put (put f e g0) e g1 = put f e g1 := by funext x; unfold put; split <;> rfl
          rw [epp]
          exact ⟨_, _, _, _, put f e g1, rfl, by rw [upd_same, et], okf g1 hg1, fun b o hb z => by rw [upd_ne hb]; exact k9 b o hb z⟩
        · exact ⟨_, _, _, _, put f e g0, rfl, by rw [et]; exact hD10, okf g0 hg0, k9⟩
      · rintro τ H7 ⟨v10, v11, v12, v13, f, rfl, hD7, hf, k7⟩
        exact ⟨_, _, _, _, f, rfl, hD7, hf, k7⟩
    rintro τ H7 ⟨v10, v11, v12, v13, f, rfl, hD7, hf, k7⟩
    exact ⟨_, rfl, k H7 D f (fun b o z => k7 b o (ne_of_none z fD) ((s5.trans s56) b o z)) fD hD7 hf⟩
end
end K27

namespace K27
open PySem L2 SI CM BK
section
variable {w : World} {K : PySem.W.Frag} {mg : Str → Option Value} {base : Heap} (T : Txt w K mg)
/-- the answer may stand at the entry -/
def isAns (e : Str) (v : V) : Prop := ∃ a, v = .str a ∧ a ∈ chs e
def spChk (B C : Addr) : Sp := fun vs H Q E => ∃ v u, vs = [v, u] ∧ flatV v = true ∧ flatV u = true ∧
  (∀ e, v = .str e → e ∈ ENT → isAns e u → Q .non H) ∧ (¬ isEnt v → ∀ d, H d = none → E (.ref B) (some d) (upd H d (.xd [(("entry" : Str), v)]))) ∧
  (∀ e, v = .str e → e ∈ ENT → ¬ isAns e u → ∀ d, H d = none → E (.ref C) (some d) (upd H d (.xd [(("answer" : Str), u), (("entry" : Str), v)])))
theorem ok_check_answer : FnOk PP w K mg base (L2.CX PP w) 5 T.f_check_answer T.d_check_answer ["entry", "answer"] (spChk T.c_BadEntry T.c_BadAnswer) := by
  refine T.F_check_answer.okX sc_check_answer (fun vs H Q E h => ?_) (fun cdv A outer s H vs Q E hr h => ?_)
  · obtain ⟨v, u, rfl, _⟩ := h
    rfl
  · obtain ⟨v, u, rfl, fv, fu, kT, kF, kG⟩ := h
    refine ⟨_, pss_one (ps_if (pt_cmpR op_notIn_seq (pv 1) (pe_call (ok_answers_at T) (hr.mono (by decide)) (by rfl) T.g_answers_at T.F_answers_at.kp (b_answers_at T) .nil (passes_call (takes_of rfl rfl rfl rfl) fun _ _ _ _ h => h) (pa_cons (pv 0) pa_nil)) rfl)
 (pss_one (ps_raise rfl (takes_of rfl rfl rfl rfl) (pmk_oex T.oex_BadAnswer T.i_BadAnswer_init T.t_BadAnswer_init (ok_BadAnswer T) (hr.mono (by decide)) (b_BadAnswer_init T) .nil pass0 (by rfl) T.g_BadAnswer (pa_cons (pv 0) (pa_cons (pv 1) pa_nil)))))
 pss_nil), ?_⟩
    refine ⟨_, rfl, _, rfl, v, rfl, fv, fun e he hE p hp => ?_, kF⟩
    subst he
    refine ⟨p, (chs e).map V.str, rfl, .inr (hp H), fu, flat_strs _, _, rfl, ?_⟩
    by_cases hA : isAns e u
    · obtain ⟨a, rfl, ha⟩ := hA
      rw [inV_str, decide_eq_true ha]
      exact iteF (kT e rfl hE ⟨a, rfl, ha⟩)
    · rw [inV_not fun a h1 h2 => hA ⟨a, h1, h2⟩]
      exact iteT ⟨_, rfl, _, rfl, rz2 (kG e rfl hE hA)⟩
/-- a number of kept versions -/
def keepV : V → Bool
  | .int n => decide (1 ≤ n) && decide (n ≤ 20)
  | _ => false
def spKeep : Sp := fun vs H Q _ => ∃ v, vs = [v] ∧ flatV v = true ∧ Q (.bl (keepV v)) H
theorem ok_is_keep : FnOk PP w K mg base CX0 1 T.f_is_keep T.d_is_keep ["keep"] spKeep := by
  refine T.F_is_keep.ok sc_is_keep (fun vs H Q E h => ?_) (fun cdv A outer s H vs Q E hr h => ?_)
  · obtain ⟨v, rfl, _⟩ := h
    rfl
  · obtain ⟨v, rfl, fv, k⟩ := h
    obtain ⟨t0, hG⟩ := T.g_MOST_KEPT
    refine ⟨_, pss_cons (ps_if (PW.pt (pw_or (pt_val (pe_callB call_isi (by rfl) T.n_isinstance (by decide +kernel) (pa_cons (pv 0) (pa_cons (pe_bltn (v := .ty "bool") (by rfl) T.n_bool (by decide +kernel) rfl) pa_nil)))) (pw_or1 (pt_not (pt_val (pe_callB call_isi (by rfl) T.n_isinstance (by decide +kernel) (pa_cons (pv 0) (pa_cons (pe_bltn (v := .ty "int") (by rfl) T.n_int (by decide +kernel) rfl) pa_nil))))))))
 (pss_one (ps_ret pe_bl))
 pss_nil)
 (pss_one (ps_ret (pe_chain op_le op_le pe_int (pv 0) (pe_glob (v := .int 20) (by rfl) hG ⟨_, rfl⟩)))), ?_⟩
    cases v with
    | int n =>
      refine ⟨_, rfl, _, _, _, _, false, rfl, ClsV.ty _, .base (.int _), kit_ty (by decide +kernel), _, rfl, ?_⟩
      refine iteF ⟨_, rfl, _, _, _, _, true, rfl, ClsV.ty _, .base (.int _), kit_ty (by decide +kernel), _, rfl, ?_⟩
      refine iteF ?_
      refine ⟨_, rfl, _, _, rfl, rfl, _, rfl, ?_⟩
      have kk : keepV (.int n) = (decide (1 ≤ n) && decide (n ≤ 20)) := rfl
      rw [kk] at k
      by_cases h : (1 : Int) ≤ n
      · rw [decide_eq_true h] at k ⊢
        exact iteT ⟨_, _, rfl, rfl, k⟩
      · rw [decide_eq_false h] at k ⊢
        exact iteF k
    | bl b =>
      refine ⟨_, rfl, _, _, _, _, true, rfl, ClsV.ty _, .base (.bl _), kit_ty (by decide +kernel), _, rfl, ?_⟩
      exact iteT k
    | str z =>
      refine ⟨_, rfl, _, _, _, _, false, rfl, ClsV.ty _, .base (.str _), kit_ty (by decide +kernel), _, rfl, ?_⟩
      refine iteF ⟨_, rfl, _, _, _, _, false, rfl, ClsV.ty _, .base (.str _), kit_ty (by decide +kernel), _, rfl, ?_⟩
      exact iteT k
    | non =>
      refine ⟨_, rfl, _, _, _, _, false, rfl, ClsV.ty _, .base .non, kit_ty (by decide +kernel), _, rfl, ?_⟩
      refine iteF ⟨_, rfl, _, _, _, _, false, rfl, ClsV.ty _, .base .non, kit_ty (by decide +kernel), _, rfl, ?_⟩
      exact iteT k
    | _ => cases fv
end
end K27

namespace K27
open PySem L2 SI CM BK OWN
section
variable {w : World} {K : PySem.W.Frag} {mg : Str → Option Value} {base : Heap} (T : Txt w K mg)
theorem ok_BadSetting : FnOk PP w K mg base CX0 1 T.f_BadSetting_init T.d_BadSetting_init ["self", "given"] (spE1 T.c_BadSetting "given") := by
  refine ok_sup (N := ["self", "given", "__class__"]) T.S_BadSetting_init sc_BadSetting_init rfl (show (defScope s_BadSetting_init).names.lookup ("super" : Str) = some .globalImplicit by decide +kernel) rfl rfl (fun vs H Q E h => ?_) (fun A outer s H vs Q E hr h => ?_)
  · obtain ⟨a, v, rfl, _⟩ := h
    rfl
  · obtain ⟨a, v, rfl, ha, k⟩ := h
    refine ⟨a, _, _, _, pa_cons pe_str pa_nil, pss_one (ps_ost (pv 0) (pv 1)), rfl, fun M B u Q' E' s' z => PySem.Calls.evalArgs_plain z, rfl, rfl, rfl, ha, by show 1 ≤ 1000; decide, ha, ?_⟩
    exact ⟨_, rfl, _, rfl, _, _, rfl, T.oex_BadSetting, T.na_BadSetting_given, .inl ⟨ha, fun dx n ne => k dx n ne⟩⟩
abbrev NAE : List Str := ["now", "after"]
/-- a way to end -/
def isEnds (v : V) : Prop := v = .str "now" ∨ v = .str "after"
/-- nothing given, or a dict of these pairs -/
def Giv (H : Hp) (g : V) (gv : List (Str × V)) : Prop := (g = .non ∧ gv = []) ∨ ∃ a, g = .ref a ∧ H a = some (.dK (prs gv))
structure Bad (H : Hp) (p : Addr) (g : V) (gv : List (Str × V)) (H' : Hp) : Prop where
  but : ∀ b o, b ≠ p → g ≠ .ref b → H b = some o → H' b = some o
  giv : ∀ a, g = .ref a → ∃ o, H' a = some (.frz o (.dK (prs gv)))
structure InitP (C S B A : Addr) (p dx : Addr) (g : V) (gv : List (Str × V)) (en ke : V) (H : Hp) (Q : VK) (E : XK) : Prop where
  ok : ∀ e k, en = .str e → isEnds en → ke = .int k → keepV ke = true → (∀ q ∈ gv, okPair q = true) → ∀ H' d, But p H H' → H d = none → Bk C H' p dx d (fill gv fun _ => "abort") e k → Q .non H'
  bE : ¬ isEnds en → ∀ H' x, Same H H' → H x = none → H' x = some (.xd [(("given" : Str), en)]) → E (.ref S) (some x) H'
  bK : isEnds en → keepV ke = false → ∀ H' x, Same H H' → H x = none → H' x = some (.xd [(("given" : Str), ke)]) → E (.ref S) (some x) H'
  bB : isEnds en → keepV ke = true → ∀ pre q post, gv = pre ++ q :: post → (∀ z ∈ pre, okPair z = true) → q.1 ∉ ENT → ∀ H' x, Bad H p g gv H' → H x = none → H' x = some (.xd [(("entry" : Str), .str q.1)]) → E (.ref B) (some x) H'
  bA : isEnds en → keepV ke = true → ∀ pre q post, gv = pre ++ q :: post → (∀ z ∈ pre, okPair z = true) → q.1 ∈ ENT → isAnsB q.1 q.2 = false → ∀ H' x, Bad H p g gv H' → H x = none → H' x = some (.xd [(("answer" : Str), q.2), (("entry" : Str), .str q.1)]) → E (.ref A) (some x) H'
def spInit (C S B A : Addr) : Sp := fun vs H Q E => ∃ p dx g gv en ke, vs = [.ref p, g, en, ke] ∧ H p = some (.ins C dx []) ∧ flatV en = true ∧ flatV ke = true ∧ Giv H g gv ∧ (∀ q ∈ gv, flatV q.2 = true) ∧ InitP C S B A p dx g gv en ke H Q E
theorem ok_Book_init : FnOk PP w K mg base (L2.CX PP w) 6 T.f_Book_init T.d_Book_init ["self", "answers", "ends", "keep"] (spInit T.c_Book T.c_BadSetting T.c_BadEntry T.c_BadAnswer) := by
  refine T.F_Book_init.ok (CX := L2.CX PP w) sc_Book_init (fun vs H Q E h => ?_) (fun cdv A outer s H vs Q E hr h => ?_)
  · obtain ⟨p, dx, g, gv, en, ke, rfl, _⟩ := h
    rfl
  · obtain ⟨p, dx, g, gv, en, ke, rfl, hp, fe, fk, hg, hf, P⟩ := h
    refine ⟨_, pss_cons (ps_if (pt_cmpR op_notIn_seq (pv 2) (pe_tup (pa_cons pe_str (pa_cons pe_str pa_nil))) rfl)
 (pss_one (ps_raise rfl (takes_of rfl rfl rfl rfl) (pmk_oex T.oex_BadSetting T.i_BadSetting_init T.t_BadSetting_init (ok_BadSetting T) (hr.mono (by decide)) (b_BadSetting_init T) .nil pass0 (by rfl) T.g_BadSetting (pa_cons (pv 2) pa_nil))))
 pss_nil)
 (pss_cons (ps_if (pt_not (pt_val (pe_call (ok_is_keep T) (hr.mono (by decide)) (by rfl) T.g_is_keep T.F_is_keep.kp (b_is_keep T) .nil pass0 (pa_cons (pv 3) pa_nil))))
 (pss_one (ps_raise rfl (takes_of rfl rfl rfl rfl) (pmk_oex T.oex_BadSetting T.i_BadSetting_init T.t_BadSetting_init (ok_BadSetting T) (hr.mono (by decide)) (b_BadSetting_init T) .nil pass0 (by rfl) T.g_BadSetting (pa_cons (pv 3) pa_nil))))
 pss_nil)
 (pss_cons (ps_fld (pv 0) (pv 2) rfl)
 (C8.pss_cut (ps_fld (pv 0) (pv 3) rfl)
 (C8.pss_cut (ps_fld (pv 0) (pe_dc (own := [("entry", 4)]) (g := gName 4) (tt := tYes) rfl sc_Book_init.nd (pi_tup (pe_glob (v := .ref T.o_ENTRIES) (by rfl) T.g_ENTRIES rfl)) (blkOk_by (N := ["self", "answers", "ends", "keep", "entry", "given", "answer"]) (sc := defScope s_Book_init) (by decide +kernel)) (fun _ _ _ _ _ => pg_name (i := 4) sc_Book_init.nd rfl (Or.inl rfl)) (fun _ _ _ _ _ => pts_nil) (fun _ _ _ _ _ => pv 4) (fun _ _ _ _ _ => pe_str)) rfl)
 (C8.pss_cut (ps_set (i := 5) sc_Book_init.nd rfl (.inl rfl) (pe_ifExp (pt_cmpR op_isN (pv 1) pe_non (nomark _)) pe_dnewK (pv 1)))
 (pss_one (ps_lock (ps_for (passes_of rfl) rfl (pi_items (pv 5)) (pg_tup rfl (pgs_cons (pg_name (i := 4) sc_Book_init.nd rfl (.inl rfl)) (pgs_cons (pg_name (i := 6) sc_Book_init.nd rfl (.inl rfl)) pgs_nil)))
 (pss_cons (ps_expr (pe_call (ok_check_answer T) (hr.mono (by decide)) (by rfl) T.g_check_answer T.F_check_answer.kp (b_check_answer T) .nil (passes_call (takes_of rfl rfl rfl rfl) fun _ _ _ _ h => h) (pa_cons (pv 4) (pa_cons (pv 6) pa_nil))))
 (pss_one (ps_dput (hu_of hr) (pe_fld (pv 0) rfl) (pv 4) (pv 6) rfl))))))))))), ?_⟩
    have two : 2 ≤ sizeLine := by decide
    refine ⟨_, rfl, two, fun t nt => ⟨t, NAE.map V.str, rfl, .inr (SqT.of upd_same), fe, flat_strs _, _, rfl, ?_⟩⟩
    have s0 : Same H (upd H t (.tup (NAE.map V.str))) := same_new (Same.refl H) nt
    have hE : inV en (NAE.map V.str) = true ↔ isEnds en := by
      constructor
      · intro z
        cases en with
        | str e =>
          rw [inV_str] at z
          have z := of_decide_eq_true z
          simp only [List.mem_cons, List.not_mem_nil, or_false] at z
          rcases z with rfl | rfl
          · exact .inl rfl
          · exact .inr rfl
        | _ => exact absurd z (by rw [inV_not (by intro e he; cases he)]; exact Bool.false_ne_true)
      · rintro (rfl | rfl) <;> decide +kernel
    by_cases hI : isEnds en
    case neg =>
      have z : inV en (NAE.map V.str) = false := by
        cases q : inV en (NAE.map V.str) with
        | false => rfl
        | true => exact absurd (hE.mp q) hI
      rw [z]
      exact iteT ⟨_, rfl, rz1 fun d hd => P.bE hI _ d (same_new s0 hd) (s0.free hd) upd_same⟩
    rw [hE.mpr hI]
    refine iteF ⟨_, rfl, ke, rfl, fk, _, rfl, ?_⟩
    cases hk : keepV ke with
    | false => exact iteT ⟨_, rfl, rz1 fun d hd => P.bK hI hk _ d (same_new s0 hd) (s0.free hd) upd_same⟩
    | true =>
    refine iteF ?_
    obtain ⟨e, rfl⟩ : ∃ e, en = .str e := by rcases hI with rfl | rfl <;> exact ⟨_, rfl⟩
    obtain ⟨k, rfl⟩ : ∃ k, ke = .int k := by
      cases ke with
      | int k => exact ⟨k, rfl⟩
      | _ => cases hk
    have hp0 := s0 _ _ hp
    refine ⟨_, rfl, _, rfl, p, T.c_Book, dx, _, rfl, hp0, T.cl_Book, T.na_Book__ends, by show 0 < 1000; decide, ?_⟩
    refine ⟨fun σ H1 => σ = [some (.ref p), some g, some (.str e), some (.int k), none, none, none] ∧ But p H H1 ∧ H1 p = some (.ins T.c_Book dx [(("_ends" : Str), .str e), (("_keep" : Str), .int k)]), ?_, ?_⟩
    · exact ⟨_, rfl, _, rfl, p, T.c_Book, dx, _, rfl, upd_same, T.cl_Book, T.na_Book__keep, by show 1 < 1000; decide, rfl, fun b o' hb z => by rw [upd_ne hb, upd_ne hb]; exact s0 b o' z, upd_same⟩
    rintro σ H1 ⟨rfl, b1, hp1⟩
    have f1 : ∀ {q : Addr}, H1 q = none → H q = none := fun {q} z => by
      cases hq : H q with
      | none => rfl
      | some o =>
        by_cases hb : q = p
        · rw [hb, hp1] at z; cases z
        · rw [b1 q o hb hq] at z; cases z
    refine ⟨fun σ H3 => ∃ d, σ = [some (.ref p), some g, some (.str e), some (.int k), none, none, none] ∧ But p H H3 ∧ H d = none ∧ Bk T.c_Book H3 p dx d (fun _ => "abort") e k, ?_, ?_⟩
    · refine ⟨_, rfl, ⟨_, T.q_ENTRIES _⟩, fun D nD => dc_tup (xs := ENT.map V.str) (fun i H' => H' D = some (.dK (tabS (ENT.take i) fun _ => "abort")) ∧ Same H1 H')
        ⟨upd_same, same_new (Same.refl H1) nD⟩ (fun i H' _ _ => T.q_ENTRIES H') ?_ ?_⟩
      · rintro i x H' hx ⟨hD, sm⟩
        rw [List.getElem?_map] at hx
        cases hq : ENT[i]? with
        | none => rw [hq] at hx; cases hx
        | some y =>
        rw [hq] at hx
        cases hx
        have hi : i < ENT.length := (List.getElem?_eq_some_iff.mp hq).1
        have hn : y ∉ ENT.take i := fun z => by
          obtain ⟨j, hj, ej⟩ := List.mem_iff_getElem.mp z
          rw [List.length_take] at hj
          rw [List.getElem_take] at ej
          have e2 := (List.pairwise_iff_getElem.mp ent_nodup) j i (by omega) hi (by omega)
          exact e2 (ej.trans (List.getElem?_eq_some_iff.mp hq).2.symm)
        refine ⟨rfl, _, rfl, _, Sum.inr y, rfl, hD, by rw [tab_len, List.length_take]; exact small1000 (by rw [ent_len] at hi ⊢; omega), ?_, ?_⟩
        · rw [upd_same, put_new (g := V.str) (a := ("abort" : Str)) hn, List.take_add_one, hq]
          have e3 : put (fun _ => ("abort" : Str)) y "abort" = (fun _ => ("abort" : Str)) := by funext z; unfold put; split <;> rfl
          rw [e3]
          rfl
        · intro b o z
          rw [upd_ne (ne_of_none z nD)]
          exact sm b o z
      rintro H2 ⟨hD, s2⟩
      rw [List.length_map, show ENT.take ENT.length = ENT from rfl] at hD
      have nDp : D ≠ p := fun z => by rw [z, hp1] at nD; cases nD
      exact ⟨_, rfl, p, T.c_Book, dx, _, rfl, s2 _ _ hp1, T.cl_Book, T.na_Book__answers, by show 2 < 1000; decide, D, rfl, fun b o' hb z => by rw [upd_ne hb]; exact s2 _ _ (b1 b o' hb z), f1 nD, upd_same, by rw [upd_ne nDp]; exact hD⟩
    rintro σ H3 ⟨d, rfl, b3, nd, B3⟩
    have hdp : d ≠ p := fun z => by rw [z, hp] at nd; cases nd
    refine ⟨fun σ H4 => ∃ ga, σ = [some (.ref p), some g, some (.str e), some (.int k), none, some (.ref ga), none] ∧ But p H H4 ∧ Bk T.c_Book H4 p dx d (fun _ => "abort") e k ∧ H4 ga = some (.dK (prs gv)) ∧ ga ≠ d ∧ ga ≠ p ∧ (g = .ref ga ∨ (g = .non ∧ H ga = none)), ?_, ?_⟩
    · refine ⟨_, rfl, rfl, _, rfl, ?_⟩
      rcases hg with ⟨rfl, rfl⟩ | ⟨a, rfl, ha⟩
      · refine iteT fun q nq => ⟨q, rfl, b3.same (same_new (Same.refl H3) nq), B3.same (same_new (Same.refl H3) nq), upd_same, fun z => ?_, fun z => ?_, .inr ⟨rfl, ?_⟩⟩
        · rw [z, B3.tbl] at nq; cases nq
        · rw [z, B3.ins] at nq; cases nq
        · cases hx : H q with
          | none => rfl
          | some o =>
            by_cases hb : q = p
            · rw [hb, B3.ins] at nq; cases nq
            · rw [b3 q o hb hx] at nq; cases nq
      · have hap : a ≠ p := fun z => by rw [z, hp] at ha; cases ha
        exact iteF ⟨_, rfl, a, rfl, b3, B3, b3 _ _ hap ha, fun z => (by rw [z, nd] at ha; cases ha), hap, .inl rfl⟩
    rintro σ H4 ⟨ga, rfl, b4, B4, hga, gad, gap, hgv⟩
    refine ⟨ga, .dK (prs gv), hga, trivial, fun od => ?_⟩
    have AB : (fun _ : Str => ("abort" : Str)) = fill (gv.take 0) (fun _ => "abort") := rfl
    refine ⟨_, rfl, ga, od, prs gv, rfl, upd_same, for_it walk_items (fun i σ H' => ∃ v4 v6, σ = [some (.ref p), some g, some (.str e), some (.int k), v4, some (.ref ga), v6] ∧ H' ga = some (.frz od (.dK (prs gv))) ∧
        Bk T.c_Book H' p dx d (fill (gv.take i) fun _ => "abort") e k ∧ (∀ q ∈ gv.take i, okPair q = true) ∧ (∀ b o, b ≠ p → b ≠ ga → H b = some o → H' b = some o))
      ⟨none, none, rfl, upd_same, ⟨by rw [upd_ne gap.symm]; exact B4.ins, by rw [upd_ne gad.symm]; exact B4.tbl⟩, (fun q hq => by cases hq), fun b o h1 h2 z => by rw [upd_ne h2]; exact b4 b o h1 z⟩ (fun i σ H' _ ⟨_, _, _, z, _⟩ => z) ?_ ?_⟩
    · rintro i x σ H5 H6 hi ⟨v4, v6, rfl, hga5, B5, ok5, b5⟩ ⟨T', x1, x2, rfl, nT, rfl, e1, e2⟩
      have e1 : (prs gv)[i]?.map (fun kv => kV kv.1) = some x1 := e1
      have e2 : (prs gv)[i]?.map Prod.snd = some x2 := e2
      cases hq : (prs gv)[i]? with
      | none => rw [hq] at e1; cases e1
      | some kv =>
      obtain ⟨kk, u⟩ := kv
      rw [hq] at e1 e2
      cases e1
      cases e2
      obtain ⟨en, hgi, rfl⟩ := prs_at hq
      have hfu : flatV u = true := hf _ (List.mem_of_getElem? hgi)
      have hmem : (en, u) ∈ gv := List.mem_of_getElem? hgi
      have hsplit : gv = gv.take i ++ (en, u) :: gv.drop (i + 1) := by
        have hl := (List.getElem?_eq_some_iff.mp hgi).1
        rw [← (List.getElem?_eq_some_iff.mp hgi).2, List.getElem_cons_drop, List.take_append_drop]
      have htake : gv.take (i + 1) = gv.take i ++ [(en, u)] := by rw [List.take_add_one, hgi] <;> rfl
      have s6 : Same H5 (upd H5 T' (.tup [kV (Sum.inr en), u])) := same_new (Same.refl H5) nT
      have badH : ∀ x o, upd H5 T' (.tup [kV (Sum.inr en), u]) x = none → Bad H p g gv (upd (upd H5 T' (.tup [kV (Sum.inr en), u])) x o) := fun x o nx => by
        have nb := same_new (o := o) s6 nx
        refine ⟨fun b o h1 h2 z => ?_, fun a ea => ⟨od, ?_⟩⟩
        · by_cases hb : b = ga
          · subst hb
            rcases hgv with hgv | ⟨hgv, _⟩
            · exact absurd hgv h2
            · rcases hg with ⟨_, rfl⟩ | ⟨a, ea, _⟩
              · cases hmem
              · rw [hgv] at ea; cases ea
          · exact nb b o (b5 b o h1 hb z)
        · rcases hgv with hgv | ⟨hgv, _⟩
          · rw [hgv] at ea
            cases ea
            exact nb _ _ hga5
          · rw [hgv] at ea; cases ea
      have freeH : ∀ x, upd H5 T' (.tup [kV (Sum.inr en), u]) x = none → H x = none := fun x nx => by
        cases hx : H x with
        | none => rfl
        | some o =>
          have n5 := s6.free nx
          by_cases h1 : x = p
          · rw [h1, B5.ins] at n5; cases n5
          · by_cases h2 : x = ga
            · rw [h2, hga5] at n5; cases n5
            · rw [b5 x o h1 h2 hx] at n5; cases n5
      refine ⟨T', _, rfl, SqT.of upd_same, rfl, _, _, rfl, _, _, rfl, rfl, ?_⟩
      have stay : ∀ x o, upd H5 T' (.tup [kV (Sum.inr en), u]) x = none → Same (upd H5 T' (.tup [kV (Sum.inr en), u])) (upd (upd H5 T' (.tup [kV (Sum.inr en), u])) x o) := fun x o nx => same_new (Same.refl _) nx
      refine ⟨_, rfl, _, rfl, .str en, u, rfl, rfl, hfu, fun e' he' hE' hA => ?_, fun hne x nx => ?_, fun e' he' hE' hA x nx => ?_⟩
      · cases he'
        obtain ⟨a, rfl, ha⟩ := hA
        have tdp : d ≠ T' := fun z => by rw [← z, B5.tbl] at nT; cases nT
        refine ⟨_, rfl, _, rfl, p, T.c_Book, dx, _, _, rfl, s6 _ _ B5.ins, T.cl_Book, T.na_Book__answers, rfl, _, rfl, d, _, rfl, DPut.k (k := Sum.inr en) (s6 _ _ B5.tbl) (by rw [tab_len]; exact small1000 (by decide)), ?_⟩
        refine ⟨_, _, rfl, by rw [upd_ne gad]; exact s6 _ _ hga5, ⟨by rw [upd_ne B5.ne]; exact s6 _ _ B5.ins, ?_⟩, fun q hq => ?_, fun b o h1 h2 z => ?_⟩
        · rw [upd_same, put_in (g := V.str) hE', htake, fill_snoc]
        · rw [htake] at hq
          rcases List.mem_append.mp hq with hq | hq
          · exact ok5 q hq
          · rw [List.mem_singleton.mp hq]
            show (decide (en ∈ ENT) && decide (a ∈ chs en)) = true
            rw [decide_eq_true hE', decide_eq_true ha]
            rfl
        · have hb : b ≠ d := fun q => by rw [q, nd] at z; cases z
          rw [upd_ne hb]
          exact s6 _ _ (b5 b o h1 h2 z)
      · refine P.bB hI hk (gv.take i) (en, u) (gv.drop (i + 1)) hsplit ok5 (fun hE' => hne ⟨en, rfl, hE'⟩) _ x (badH x _ nx) (freeH x nx) upd_same
      · cases he'
        have hb : isAnsB en u = false := by
          cases q : isAnsB en u with
          | false => rfl
          | true =>
            cases u with
            | str a => exact absurd ⟨a, rfl, of_decide_eq_true q⟩ hA
            | _ => cases q
        exact P.bA hI hk (gv.take i) (en, u) (gv.drop (i + 1)) hsplit ok5 hE' hb _ x (badH x _ nx) (freeH x nx) upd_same
    · rintro σ H5 ⟨v4, v6, rfl, hga5, B5, ok5, b5⟩
      have et : gv.take (prs gv).length = gv := by rw [prs_len, List.take_length]
      rw [et] at B5 ok5
      refine ⟨hga5, P.ok e k rfl hI rfl hk ok5 _ d (fun b o h1 z => ?_) nd ⟨by rw [upd_ne gap.symm]; exact B5.ins, by rw [upd_ne gad.symm]; exact B5.tbl⟩⟩
      by_cases hb : b = ga
      · subst hb
        rw [upd_same]
        rcases hgv with hgv | ⟨hgv, nga⟩
        · rcases hg with ⟨z0, _⟩ | ⟨a, ea, ha⟩
          · rw [hgv] at z0; cases z0
          · rw [hgv] at ea
            cases ea
            rw [← ha]
            exact z
        · exfalso
          rw [nga] at z
          cases z
      · rw [upd_ne hb]
        exact b5 b o h1 hb z
end
end K27

namespace K27
open PySem L2 SI CM BK OWN
section
variable {w : World} {K : PySem.W.Frag} {mg : Str → Option Value} {base : Heap} (T : Txt w K mg)
/-- book[entry] -/
def spGet (C B : Addr) : Sp := fun vs H Q E => ∃ b dx d f e k v, vs = [.ref b, v] ∧ Bk C H b dx d f e k ∧ flatV v = true ∧ (∀ x, v = .str x → x ∈ ENT → Q (.str (f x)) H) ∧ (¬ isEnt v → ∀ x, H x = none → E (.ref B) (some x) (upd H x (.xd [(("entry" : Str), v)])))
theorem ok_get : FnOk PP w K mg base (L2.CX PP w) 4 T.f_Book_getitem T.d_Book_getitem ["self", "entry"] (spGet T.c_Book T.c_BadEntry) := by
  refine T.F_Book_getitem.okX sc_Book_getitem (fun vs H Q E h => ?_) (fun cdv A outer s H vs Q E hr h => ?_)
  · obtain ⟨b, dx, d, f, e, k, v, rfl, _⟩ := h
    rfl
  · obtain ⟨b, dx, d, f, e, k, v, rfl, B, fv, kT, kF⟩ := h
    refine ⟨_, pss_cons (ps_if (pt_cmpR op_notIn_seq (pv 1) (pe_glob (v := .ref T.o_ENTRIES) (by rfl) T.g_ENTRIES rfl) rfl)
 (pss_one (ps_raise rfl (takes_of rfl rfl rfl rfl) (pmk_oex T.oex_BadEntry T.i_BadEntry_init T.t_BadEntry_init (ok_BadEntry T) (hr.mono (by decide)) (b_BadEntry_init T) .nil pass0 (by rfl) T.g_BadEntry (pa_cons (pv 1) pa_nil))))
 pss_nil)
 (pss_one (ps_ret (pe_dget (hu_of hr) (pe_fld (pv 0) rfl) (pv 1) (fun _ _ => rfl)))), ?_⟩
    refine ⟨_, rfl, T.o_ENTRIES, ENT.map V.str, rfl, .inr (T.q_ENTRIES H), fv, flat_strs _, _, rfl, ?_⟩
    by_cases hE : isEnt v
    · obtain ⟨x, rfl, hx⟩ := hE
      rw [inV_str, decide_eq_true hx]
      refine iteF ⟨_, rfl, b, T.c_Book, dx, _, _, rfl, B.ins, T.cl_Book, T.na_Book__answers, rfl, _, rfl, d, .str (f x), rfl, ?_, kT x rfl hx⟩
      have g := DGet.k (k := Sum.inr x) B.tbl
      rw [val_in (g := V.str) hx] at g
      exact g
    · rw [inV_not fun x h1 h2 => hE ⟨x, h1, h2⟩]
      exact iteT ⟨_, rfl, rz1 (kF hE)⟩
end
end K27

namespace K27
open PySem L2 SI CM BK OWN
section
variable {w : World} {K : PySem.W.Frag} {mg : Str → Option Value} {base : Heap} (T : Txt w K mg)
abbrev psB : List Str := ["self", "answers", "ends", "keep"]
/-- Book(x, ends=.., keep=..) -/
theorem kbEK : ∃ (g : List Value → List Value → List Value), KBn K T.d_Book_init psB 2 ["ends", "keep"] g (fun vs zs => vs ++ zs) := by
  obtain ⟨its, mv, h⟩ := T.F_Book_init.kbinds (ps := psB) 2 ["ends", "keep"] [] (fun us its mv ws => us ++ ws) (by simp) (by simp) (fun q h => by cases h) (fun r1 _ _ r4 => r1.append r4)
    fun T D doc pm an cdv ct us its mv ws l1 l2 l3 l4 => match us, its, mv, ws, l1, l2, l3, l4 with
      | [_, _], [_], [], [_, _], _, _, _, _ => ⟨_, rfl, rfl⟩
  exact ⟨_, h⟩
/-- Book(x, ends=..) -/
theorem kbE : ∃ (g : List Value → List Value → List Value), KBn K T.d_Book_init psB 2 ["ends"] g (fun vs zs => vs ++ (zs ++ [.int 1])) := by
  obtain ⟨its, mv, h⟩ := T.F_Book_init.kbinds (ps := psB) 2 ["ends"] [("keep", .int 1)] (fun us its mv ws => us ++ (ws ++ mv)) (by simp) (by simp) (fun q h => by rw [List.mem_singleton.mp h]; simp) (fun r1 _ r3 r4 => r1.append (r4.append r3))
    fun T D doc pm an cdv ct us its mv ws l1 l2 l3 l4 => match us, its, mv, ws, l1, l2, l3, l4 with
      | [_, _], [_], [_], [_], _, _, _, _ => ⟨_, rfl, _, _, _, _, _, _, rfl, rfl, rfl⟩
  exact ⟨_, h⟩
/-- Book(x, keep=..) -/
theorem kbK : ∃ (g : List Value → List Value → List Value), KBn K T.d_Book_init psB 2 ["keep"] g (fun vs zs => vs ++ ([.str "now"] ++ zs)) := by
  obtain ⟨its, mv, h⟩ := T.F_Book_init.kbinds (ps := psB) 2 ["keep"] [("ends", .str "now")] (fun us its mv ws => us ++ (mv ++ ws)) (by simp) (by simp) (fun q h => by rw [List.mem_singleton.mp h]; simp) (fun r1 _ r3 r4 => r1.append (r3.append r4))
    fun T D doc pm an cdv ct us its mv ws l1 l2 l3 l4 => match us, its, mv, ws, l1, l2, l3, l4 with
      | [_, _], [_], [_], [_], _, _, _, _ => ⟨_, rfl, _, _, _, _, _, _, rfl, rfl, rfl⟩
  exact ⟨_, h⟩
/-- Book() -/
theorem kb0 : ∃ ds, Vals [.non, .str "now", .int 1] ds ∧ Binds K T.d_Book_init psB ds :=
  T.F_Book_init.binds (ps := psB) 1 0 (by simp) rfl (fun T D doc pm an cdv ct us its ks l1 l2 l3 => match us, its, ks, l1, l2, l3 with
    | [_], [_], [_, _], _, _, _ => ⟨_, rfl, _, _, _, _, _, _, rfl, rfl, _, _, _, _, _, _, rfl, rfl, rfl⟩) (by simp)
/-- Book(x) -/
theorem kb1 : ∃ ds, Vals [.str "now", .int 1] ds ∧ Binds K T.d_Book_init psB ds :=
  T.F_Book_init.binds (ps := psB) 2 1 (by simp) rfl (fun T D doc pm an cdv ct us its ks l1 l2 l3 => match us, its, ks, l1, l2, l3 with
    | [_, _], [_], [_, _], _, _, _ => ⟨_, rfl, _, _, _, _, _, _, rfl, rfl, _, _, _, _, _, _, rfl, rfl, rfl⟩) (by simp)
/-- a book is made -/
theorem mk_book {C S B A : Addr} {H2 : Hp} {g : V} {gv : List (Str × V)} {e : Str} {k : Int} {R : VK} {E : XK} {x dx : Addr} (hg : Giv H2 g gv) (hI : isEnds (.str e)) (hk : keepV (.int k) = true) (hok : ∀ q ∈ gv, okPair q = true)
    (nx : H2 x = none) (ndx : H2 dx = none) (h : ∀ H' d, Same H2 H' → H2 d = none → Bk C H' x dx d (fill gv fun _ => "abort") e k → R .non H') :
    spInit C S B A [.ref x, g, .str e, .int k] (upd (upd H2 dx (.own x)) x (.ins C dx [])) R E := by
  have sm : Same H2 (upd (upd H2 dx (.own x)) x (.ins C dx [])) := fun b o z => by
    rw [upd_ne (ne_of_none z nx), upd_ne (ne_of_none z ndx)]
    exact z
  refine ⟨x, dx, g, gv, _, _, rfl, upd_same, rfl, rfl, ?_, fun q hq => ?_, ⟨fun e' k' he _ hk' _ _ H' d b nd Bb => ?_, fun z => absurd hI z, (fun _ z => by rw [hk] at z; cases z), fun _ _ pre q post eq _ hn => ?_, fun _ _ pre q post eq _ _ hb => ?_⟩⟩
  · rcases hg with ⟨h1, h2⟩ | ⟨a, h1, h2⟩
    · exact .inl ⟨h1, h2⟩
    · exact .inr ⟨a, h1, sm _ _ h2⟩
  · have z := hok q hq
    obtain ⟨qe, qv⟩ := q
    cases qv with
    | str a => rfl
    | _ => unfold okPair isAnsB at z; simp at z
  · cases he
    cases hk'
    refine h H' d (fun b' o z => b b' o (ne_of_none z nx) (sm b' o z)) ?_ Bb
    exact sm.free nd
  · have z := hok q (by rw [eq]; simp)
    unfold okPair at z
    rw [decide_eq_false hn] at z
    cases z
  · have z := hok q (by rw [eq]; simp)
    unfold okPair at z
    rw [hb, Bool.and_false] at z
    cases z
/-- a book as it may stand -/
structure Gd (f : Str → Str) (e : Str) (k : Int) : Prop where
  en : isEnds (.str e)
  kp : keepV (.int k) = true
  an : ∀ x ∈ ENT, f x ∈ chs x
theorem Bk.congr {C : Addr} {H : Hp} {b dx d : Addr} {f f' : Str → Str} {e : Str} {k : Int} (h : Bk C H b dx d f e k) (hf : ∀ x ∈ ENT, f x = f' x) : Bk C H b dx d f' e k := ⟨h.ins, by rw [h.tbl]; exact congrArg _ (congrArg _ (tab_congr hf))⟩
theorem ok_tab {f : Str → Str} (h : ∀ x ∈ ENT, f x ∈ chs x) : ∀ q ∈ ENT.map (fun e => (e, V.str (f e))), okPair q = true := by
  intro q hq
  obtain ⟨e, he, rfl⟩ := List.mem_map.mp hq
  show (decide (e ∈ ENT) && decide (f e ∈ chs e)) = true
  rw [decide_eq_true he, decide_eq_true (h e he)]
  rfl
end
end K27

namespace K27
open PySem L2 SI CM BK OWN MIR StX TX TL
section
variable {w : World} {K : PySem.W.Frag} {mg : Str → Option Value} {base : Heap} (T : Txt w K mg)
/-- the terms of a book: its table, its way to end, its kept versions -/
def TermsAt (H : Hp) (p t : Addr) (f : Str → Str) (r : Str) (k : Nat) : Prop := H p = some (.tup [.ref t, .str r, .int (k : Int)]) ∧ H t = some (.dK (tabS ENT f)) ∧ Gd f r (k : Int) ∧ 1 ≤ k ∧ k ≤ 20
theorem TermsAt.same {H H' : Hp} {p t : Addr} {f : Str → Str} {r : Str} {k : Nat} (h : TermsAt H p t f r k) (s : Same H H') : TermsAt H' p t f r k := ⟨s _ _ h.1, s _ _ h.2.1, h.2.2⟩
def spTerms (K : PySem.W.Frag) : Sp := fun vs H Q _ => ∃ (a : Addr) (ns : List Int), vs = [.ref a] ∧ SqL K H a (ns.map V.int) ∧ ns.length ≤ 63 ∧ ∀ (H' : Hp) (p t : Addr) (f : Str → Str) (r : Str) (k : Nat), Same H H' → H p = none → H t = none → TermsAt H' p t f r k → Q (.ref p) H'
theorem sq_butD {K : PySem.W.Frag} {H H' : Hp} {a D : Addr} {xs : List V} (h : SqL K H a xs) (n : H D = none) (k : ∀ b o, b ≠ D → H b = some o → H' b = some o) : SqL K H' a xs := by
  rcases h with (h | ⟨o, h⟩) | h
  · exact .inl (.inl (k _ _ (ne_of_none h n) h))
  · exact .inl (.inr ⟨o, k _ _ (ne_of_none h n) h⟩)
  · exact .inr h
theorem ok_terms : FnOk PP w K mg base CX0 3 T.f_law_terms T.d_law_terms ["_law_script"] (spTerms K) := by
  refine T.F_law_terms.ok sc_law_terms (fun vs H Q E h => ?_) (fun cdv A outer s H vs Q E hr h => ?_)
  · obtain ⟨a, ns, rfl, _⟩ := h
    rfl
  · obtain ⟨a, ns, rfl, hS, hl, kk⟩ := h
    refine ⟨_, pss_cons (ps_set (i := 1) sc_law_terms.nd rfl (.inl rfl) (pe_call (ok_cell T) (hr.mono (by decide)) (by rfl) T.g_law_cell T.F_law_cell.kp (b_law_cell T) .nil pass0 (pa_cons (pv 0) (pa_cons pe_int pa_nil))))
 (pss_cons (ps_set (i := 2) sc_law_terms.nd rfl (.inl rfl) (pe_ix ix_list (pe_lst (pa_cons pe_str (pa_cons pe_str pa_nil))) (pe_op op_mod (pe_callTy call_int1 (by rfl) T.n_int (by decide +kernel) (pa_cons (pv 1) pa_nil)) pe_int) (fun _ _ => rfl)))
 (pss_cons (ps_set (i := 3) sc_law_terms.nd rfl (.inl rfl) (pe_op op_mod (pe_callTy call_int1 (by rfl) T.n_int (by decide +kernel) (pa_cons (pe_op op_fdiv (pv 1) pe_int) pa_nil)) pe_int))
 (pss_cons (ps_set (i := 4) sc_law_terms.nd rfl (.inl rfl) (pe_ix ix_list (pe_lst (pa_cons pe_int (pa_cons pe_int (pa_cons pe_int (pa_cons pe_int (pa_cons pe_int pa_nil)))))) (pe_op op_mod (pe_callTy call_int1 (by rfl) T.n_int (by decide +kernel) (pa_cons (pe_op op_fdiv (pv 1) pe_int) pa_nil)) pe_int) (fun _ _ => rfl)))
 (pss_cons (ps_set (i := 5) sc_law_terms.nd rfl (.inl rfl) (pe_call (ok_table T) (hr.mono (by decide)) (by rfl) T.g_law_table T.F_law_table.kp (b_law_table T) .nil pass0 (pa_cons (pe_call (ok_cell T) (hr.mono (by decide)) (by rfl) T.g_law_cell T.F_law_cell.kp (b_law_cell T) .nil pass0 (pa_cons (pv 0) (pa_cons pe_int pa_nil))) pa_nil)))
 (C8.pss_cut (ps_if (pt_cmpR op_in_seq (pv 3) (pe_lst (pa_cons pe_int (pa_cons pe_int pa_nil))) rfl)
 (pss_one (ps_set (i := 5) sc_law_terms.nd rfl (.inl rfl) (pe_call (ok_sound T) (hr.mono (by decide)) (by rfl) T.g_law_sound T.F_law_sound.kp (b_law_sound T) .nil pass0 (pa_cons (pe_call (ok_cell T) (hr.mono (by decide)) (by rfl) T.g_law_cell T.F_law_cell.kp (b_law_cell T) .nil pass0 (pa_cons (pv 0) (pa_cons pe_int pa_nil))) (pa_cons (pv 2) (pa_cons (pv 4) pa_nil))))))
 pss_nil)
 (C8.pss_cut (ps_if (pt_cmpR op_eq (pv 3) pe_int (nomark _))
 (pss_cons (ps_set (i := 6) sc_law_terms.nd rfl (.inl rfl) (pe_ix ix_list (pe_call0 (ok_entries T) (hr.mono (by decide)) (by rfl) T.g_law_entries T.F_law_entries.kp (b_law_entries T) .nil pass0) (pe_op op_mod (pe_callTy call_int1 (by rfl) T.n_int (by decide +kernel) (pa_cons (pe_op op_fdiv (pv 1) pe_int) pa_nil)) pe_int) (fun _ _ => rfl)))
 (pss_cons (ps_set (i := 7) sc_law_terms.nd rfl (.inl rfl) (pe_call (ok_choices T) (hr.mono (by decide)) (by rfl) T.g_law_choices T.F_law_choices.kp (b_law_choices T) .nil pass0 (pa_cons (pv 6) pa_nil)))
 (pss_one (ps_dput (hu_of hr) (pv 5) (pv 6) (pe_ix ix_list (pv 7) (pe_op op_mod (pe_callTy call_int1 (by rfl) T.n_int (by decide +kernel) (pa_cons (pe_op op_fdiv (pv 1) pe_int) pa_nil)) (pe_callB call_len_seq (by rfl) T.n_len PySem.boot_len (pa_cons (pv 7) pa_nil))) (fun _ _ => rfl)) rfl))))
 pss_nil)
 (pss_one (ps_ret (pe_tup (pa_cons (pv 5) (pa_cons (pv 2) (pa_cons (pv 4) pa_nil)))))))))))), ?_⟩
    have p2 : (0 : Int) < 2 := by decide
    have p4 : (0 : Int) < 4 := by decide
    have p5 : (0 : Int) < 5 := by decide
    have p14 : (0 : Int) < 14 := by decide
    have two : 2 ≤ sizeLine := by decide
    have three : 3 ≤ sizeLine := by decide
    have five : 5 ≤ sizeLine := by decide
    refine ⟨_, rfl, a, ns, 0, rfl, hS, hl, two, fun t1 n1 => ?_⟩
    generalize ns.getD 0 0 = c
    have s1 := same_new (o := .lst [.str "now", .str "after"]) (Same.refl H) n1
    have h1 : (upd H t1 (.lst [.str "now", .str "after"])) t1 = some (.lst [.str "now", .str "after"]) := upd_same
    generalize upd H t1 (.lst [.str "now", .str "after"]) = H1 at s1 h1
    have m0 := Int.emod_nonneg c (Int.ne_of_gt p2)
    have m1 := Int.emod_lt_of_pos c p2
    obtain ⟨r, er, hr2⟩ : ∃ r : Str, atI [V.str "now", V.str "after"] (c % 2) = some (.str r) ∧ isEnds (.str r) := by
      obtain ⟨j, hj⟩ := Int.eq_ofNat_of_zero_le m0
      rw [hj]
      match j, (show j < 2 by omega) with
      | 0, _ => exact ⟨_, rfl, .inl rfl⟩
      | 1, _ => exact ⟨_, rfl, .inr rfl⟩
    refine ⟨_, rfl, .inl ⟨_, rfl, _, _, rfl, rfl, p2, t1, _, _, _, rfl, rfl, SqL.of h1, er, ?_⟩⟩
    refine ⟨_, rfl, _, _, rfl, rfl, ⟨by decide, by decide⟩, .inl ⟨_, rfl, _, _, rfl, rfl, p4, ?_⟩⟩
    refine ⟨five, fun t2 n2 => ?_⟩
    have s2 := same_new (o := .lst [.int 1, .int 2, .int 3, .int 20, .int 5]) s1 n2
    have h2 : (upd H1 t2 (.lst [.int 1, .int 2, .int 3, .int 20, .int 5])) t2 = some (.lst [.int 1, .int 2, .int 3, .int 20, .int 5]) := upd_same
    generalize upd H1 t2 (.lst [.int 1, .int 2, .int 3, .int 20, .int 5]) = H2 at s2 h2
    have m2 := Int.emod_nonneg (c / 8) (Int.ne_of_gt p5)
    have m3 := Int.emod_lt_of_pos (c / 8) p5
    obtain ⟨k, ek, k1, k20⟩ : ∃ k : Nat, atI [V.int 1, V.int 2, V.int 3, V.int 20, V.int 5] (c / 8 % 5) = some (.int (k : Int)) ∧ 1 ≤ k ∧ k ≤ 20 := by
      obtain ⟨j, hj⟩ := Int.eq_ofNat_of_zero_le m2
      rw [hj]
      match j, (show j < 5 by omega) with
      | 0, _ => exact ⟨1, rfl, by decide, by decide⟩
      | 1, _ => exact ⟨2, rfl, by decide, by decide⟩
      | 2, _ => exact ⟨3, rfl, by decide, by decide⟩
      | 3, _ => exact ⟨20, rfl, by decide, by decide⟩
      | 4, _ => exact ⟨5, rfl, by decide, by decide⟩
    refine ⟨_, rfl, _, _, rfl, rfl, ⟨by decide, by decide⟩, .inl ⟨_, rfl, _, _, rfl, rfl, p5, t2, _, _, _, rfl, rfl, SqL.of h2, ek, ?_⟩⟩
    refine ⟨_, rfl, a, ns, 1, rfl, s2.seq hS, hl, _, rfl, fun H3 D0 f0 s3 nD0 hD0 hf0 => ?_⟩
    have s23 := s2.trans s3
    refine ⟨fun τ H' => ∃ (D : Addr) (f : Str → Str), τ = [some (.ref a), some (.int c), some (.str r), some (.int (c / 2 % 4)), some (.int (k : Int)), some (.ref D), none, none] ∧ Same H H' ∧ H D = none ∧ H' D = some (.dK (tabS ENT f)) ∧ ∀ e ∈ ENT, f e ∈ chs e, ?_, ?_⟩
    · refine ⟨_, rfl, two, fun t nt => ⟨t, _, rfl, .inl (SqL.of upd_same), rfl, rfl, _, rfl, ?_⟩⟩
      have s4 := same_new (o := .lst [.int 1, .int 2]) s23 nt
      cases inV (V.int (c / 2 % 4)) [V.int 1, V.int 2] with
      | true => exact iteT ⟨_, rfl, a, ns, 1, rfl, s4.seq hS, hl, _, rfl, _, rfl, _, _, r, rfl, fun H5 D f s5 nD hD hf => ⟨D, f, rfl, s4.trans s5, s4.free nD, hD, hf⟩⟩
      | false => exact iteF ⟨D0, f0, rfl, s4, s2.free nD0, kp nt hD0, hf0⟩
    rintro τ H4 ⟨D, f, rfl, s4, nD, hD, hf⟩
    have fin : ∀ (H5 : Hp) (D' : Addr) (f' : Str → Str), (∀ b o, b ≠ D → H4 b = some o → H5 b = some o) → H5 D = some (.dK (tabS ENT f')) → (∀ e ∈ ENT, f' e ∈ chs e) → Same H H5 := fun H5 D' f' b _ _ => fun x o z => b x o (ne_of_none z nD) (s4 x o z)
    refine ⟨fun τ H' => ∃ (v6 v7 : Option V) (f' : Str → Str), τ = [some (.ref a), some (.int c), some (.str r), some (.int (c / 2 % 4)), some (.int (k : Int)), some (.ref D), v6, v7] ∧ (∀ b o, b ≠ D → H4 b = some o → H' b = some o) ∧ H' D = some (.dK (tabS ENT f')) ∧ ∀ e ∈ ENT, f' e ∈ chs e, ?_, ?_⟩
    · refine ⟨_, rfl, rfl, _, rfl, ?_⟩
      cases decide (V.int (c / 2 % 4) = V.int 2) with
      | false => exact iteF ⟨none, none, f, rfl, fun _ _ _ z => z, hD, hf⟩
      | true =>
        refine iteT ⟨rfl, fun H5 N s5 nN hN => ?_⟩
        have m4 := Int.emod_nonneg (c / 40) (Int.ne_of_gt p14)
        have m5 := Int.emod_lt_of_pos (c / 40) p14
        obtain ⟨e, he, eE⟩ : ∃ e : Str, atI (ENT.map V.str) (c / 40 % 14) = some (.str e) ∧ e ∈ ENT := by
          obtain ⟨j, hj⟩ := Int.eq_ofNat_of_zero_le m4
          have hj2 : j < ENT.length := by rw [ent_len]; omega
          rw [hj]
          exact ⟨ENT[j], atI_nat (by rw [List.getElem?_map, List.getElem?_eq_getElem hj2]; rfl), List.getElem_mem hj2⟩
        refine ⟨_, rfl, _, _, rfl, rfl, ⟨by decide, by decide⟩, .inl ⟨_, rfl, _, _, rfl, rfl, p14, N, _, _, _, rfl, rfl, SqL.of hN, he, ?_⟩⟩
        refine ⟨_, rfl, _, rfl, fun H6 P s6 nP hP => ?_⟩
        have cl := chs_len e
        have pg : (0 : Int) < (((chs e).map V.str).length : Nat) := by rw [List.length_map]; omega
        have m6 := Int.emod_nonneg (c / 560) (Int.ne_of_gt pg)
        have m7 := Int.emod_lt_of_pos (c / 560) pg
        obtain ⟨g, eg, hg⟩ : ∃ g : Str, atI ((chs e).map V.str) (c / 560 % ((((chs e).map V.str).length : Nat) : Int)) = some (.str g) ∧ g ∈ chs e := by
          obtain ⟨j, hj⟩ := Int.eq_ofNat_of_zero_le m6
          have hj2 : j < (chs e).length := by rw [hj, List.length_map] at m7; omega
          rw [hj]
          exact ⟨(chs e)[j], atI_nat (by rw [List.getElem?_map, List.getElem?_eq_getElem hj2]; rfl), List.getElem_mem hj2⟩
        have s56 := s5.trans s6
        refine ⟨_, rfl, _, rfl, _, _, rfl, rfl, ⟨by decide, by decide⟩, .inl ⟨_, rfl, _, rfl, P, _, rfl, .inl (SqL.of hP), _, _, rfl, rfl, pg, P, _, _, _, rfl, rfl, SqL.of hP, eg, ?_⟩⟩
        refine ⟨_, rfl, _, rfl, D, _, rfl, DPut.k (k := Sum.inr e) (s56 _ _ hD) (by rw [tab_len]; exact small1000 (by decide)), ?_⟩
        rw [put_in (g := V.str) eE]
        refine ⟨_, _, put f e g, rfl, fun b o hb z => by rw [upd_ne hb]; exact s56 _ _ z, upd_same, fun e' he' => ?_⟩
        by_cases q : e' = e
        · rw [q, put_same]; exact hg
        · rw [put_ne q]; exact hf e' he'
    rintro τ H5 ⟨v6, v7, f', rfl, b5, hD5, hf5⟩
    have s5 := fin H5 D f' b5 hD5 hf5
    have kv : keepV (.int (k : Int)) = true := by
      show (decide ((1 : Int) ≤ (k : Int)) && decide ((k : Int) ≤ 20)) = true
      rw [decide_eq_true (by omega), decide_eq_true (by omega)]; rfl
    exact ⟨_, rfl, _, rfl, _, rfl, three, fun p np => kk _ p D f' r k (same_new s5 np) (s5.free np) nD ⟨upd_same, kp np hD5, ⟨hr2, kv, hf5⟩, k1, k20⟩⟩
end
end K27

namespace K27
open PySem L2 SI CM BK OWN MIR StX TX TL
section
variable {w : World} {K : PySem.W.Frag} {mg : Str → Option Value} {base : Heap} (T : Txt w K mg)
/-- all but p stays -/
def ButP (p : Addr) (H H' : Hp) : Prop := ∀ b o, b ≠ p → H b = some o → H' b = some o
def spItemI (C : Addr) : Sp := fun vs H Q _ => ∃ p dx a b c r, vs = [.ref p, a, b, c, r] ∧ H p = some (.ins C dx []) ∧ ∀ H', ButP p H H' → H' p = some (.ins C dx [("kept", a), ("holder", b), ("value", c), ("reader", r)]) → Q .non H'
theorem ok_Item_init : FnOk PP w K mg base CX0 1 T.f_Item_init T.d_Item_init ["self", "kept", "holder", "value", "reader"] (spItemI T.c_Item) := by
  refine T.F_Item_init.ok sc_Item_init (fun vs H Q E h => ?_) (fun cdv A outer s H vs Q E hr h => ?_)
  · obtain ⟨p, dx, a, b, c, r, rfl, _⟩ := h
    rfl
  · obtain ⟨p, dx, a, b, c, r, rfl, hp, k⟩ := h
    refine ⟨_, pss_cons (ps_fld (pv 0) (pv 1) rfl)
 (pss_cons (ps_fld (pv 0) (pv 2) rfl)
 (pss_cons (ps_fld (pv 0) (pv 3) rfl)
 (pss_one (ps_fld (pv 0) (pv 4) rfl)))), ?_⟩
    refine ⟨_, rfl, _, rfl, p, T.c_Item, dx, _, rfl, hp, T.cl_Item, T.na_Item_kept, by show 0 < 1000; decide, ?_⟩
    refine ⟨_, rfl, _, rfl, p, T.c_Item, dx, _, rfl, upd_same, T.cl_Item, T.na_Item_holder, by show 1 < 1000; decide, ?_⟩
    refine ⟨_, rfl, _, rfl, p, T.c_Item, dx, _, rfl, upd_same, T.cl_Item, T.na_Item_value, by show 2 < 1000; decide, ?_⟩
    refine ⟨_, rfl, _, rfl, p, T.c_Item, dx, _, rfl, upd_same, T.cl_Item, T.na_Item_reader, by show 3 < 1000; decide, ?_⟩
    exact k _ (fun x o n z => by rw [upd_ne n, upd_ne n, upd_ne n, upd_ne n]; exact z) upd_same
def spStateI (C : Addr) : Sp := fun vs H Q _ => ∃ p dx a b c, vs = [.ref p, a, b, c] ∧ H p = some (.ins C dx []) ∧ ∀ H', ButP p H H' → H' p = some (.ins C dx [("store", a), ("over", b), ("bonds", c)]) → Q .non H'
theorem ok_State_init : FnOk PP w K mg base CX0 1 T.f_State_init T.d_State_init ["self", "store", "over", "bonds"] (spStateI T.c_State) := by
  refine T.F_State_init.ok sc_State_init (fun vs H Q E h => ?_) (fun cdv A outer s H vs Q E hr h => ?_)
  · obtain ⟨p, dx, a, b, c, rfl, _⟩ := h
    rfl
  · obtain ⟨p, dx, a, b, c, rfl, hp, k⟩ := h
    refine ⟨_, pss_cons (ps_fld (pv 0) (pv 1) rfl)
 (pss_cons (ps_fld (pv 0) (pv 2) rfl)
 (pss_one (ps_fld (pv 0) (pv 3) rfl))), ?_⟩
    refine ⟨_, rfl, _, rfl, p, T.c_State, dx, _, rfl, hp, T.cl_State, T.na_State_store, by show 0 < 1000; decide, ?_⟩
    refine ⟨_, rfl, _, rfl, p, T.c_State, dx, _, rfl, upd_same, T.cl_State, T.na_State_over, by show 1 < 1000; decide, ?_⟩
    refine ⟨_, rfl, _, rfl, p, T.c_State, dx, _, rfl, upd_same, T.cl_State, T.na_State_bonds, by show 2 < 1000; decide, ?_⟩
    exact k _ (fun x o n z => by rw [upd_ne n, upd_ne n, upd_ne n]; exact z) upd_same
theorem mk_item {C : Addr} {H : Hp} {a b c r : V} {R : VK} {x dx : Addr} (nx : H x = none) (ndx : H dx = none)
    (h : ∀ H', Same H H' → H' x = some (.ins C dx [("kept", a), ("holder", b), ("value", c), ("reader", r)]) → R .non H') :
    spItemI C [.ref x, a, b, c, r] (upd (upd H dx (.own x)) x (.ins C dx [])) R E0 := by
  refine ⟨x, dx, a, b, c, r, rfl, upd_same, fun H' bt hx => h H' (fun q o z => bt q o (ne_of_none z nx) ?_) hx⟩
  rw [upd_ne (ne_of_none z nx), upd_ne (ne_of_none z ndx)]
  exact z
theorem mk_state {C : Addr} {H : Hp} {a b c : V} {R : VK} {x dx : Addr} (nx : H x = none) (ndx : H dx = none)
    (h : ∀ H', Same H H' → H' x = some (.ins C dx [("store", a), ("over", b), ("bonds", c)]) → R .non H') :
    spStateI C [.ref x, a, b, c] (upd (upd H dx (.own x)) x (.ins C dx [])) R E0 := by
  refine ⟨x, dx, a, b, c, rfl, upd_same, fun H' bt hx => h H' (fun q o z => bt q o (ne_of_none z nx) ?_) hx⟩
  rw [upd_ne (ne_of_none z nx), upd_ne (ne_of_none z ndx)]
  exact z
def spFirst (CS CI : Addr) : Sp := fun vs H Q _ => vs = [] ∧ ∀ H' p, Same H H' → H p = none → (∀ U N, StAt CS CI U N H' p s0) → Q (.ref p) H'
theorem dr_nil {H : Hp} {d : Addr} {P : Key → Option V → Prop} (h : H d = some (.dK [])) (p : ∀ k, P k none) : DR H d P := ⟨[], h, List.nodup_nil, p⟩
theorem ok_first : FnOk PP w K mg base CX0 3 T.f_first_state T.d_first_state [] (spFirst T.c_State T.c_Item) := by
  refine T.F_first_state.ok sc_first_state (fun vs H Q E h => ?_) (fun cdv A outer s H vs Q E hr h => ?_)
  · obtain ⟨rfl, _⟩ := h
    rfl
  · obtain ⟨rfl, k⟩ := h
    refine ⟨_, pss_one (ps_ret (pe_make T.mk_State (ok_State_init T) (hr.mono (by decide)) (by rfl) T.g_State (b_State_init T) .nil pass0 (pa_cons pe_dnewK (pa_cons pe_dnewK (pa_cons pe_dnewK pa_nil))))), ?_⟩
    refine fun ds nds dv ndv db ndb x dx nx ndx ne => mk_state nx ndx fun H' sm hx => ⟨rfl, k H' x ?_ ?_ fun U N => ⟨dx, ds, dv, db, hx, ?_, ?_, ?_, ?_, ?_, ?_⟩⟩
    · exact (same_new (same_new (same_new (Same.refl H) nds) ndv) ndb).trans sm
    · exact ((same_new (same_new (same_new (Same.refl H) nds) ndv) ndb)).free nx
    · exact ne_of_none upd_same ndv
    · exact ne_of_none (kp ndv upd_same) ndb
    · exact ne_of_none upd_same ndb
    · exact dr_nil (sm _ _ (kp ndb (kp ndv upd_same))) fun k => by cases k <;> rfl
    · exact dr_nil (sm _ _ (kp ndb upd_same)) fun k => by cases k <;> rfl
    · exact dr_nil (sm _ _ upd_same) fun k => by cases k <;> rfl
/-- the item of a name -/
def spItemOf (CS CI : Addr) : Sp := fun vs H Q _ => ∃ p n U N σ, vs = [.ref p, .str n] ∧ StAt CS CI U N H p σ ∧ ∀ H' q, Same H H' → ItAt CI H' q (σ.it n) → WfI U (σ.it n) → Q (.ref q) H'
theorem wf0 {U : List Int} : WfI U it0 := { ne := (by intro z; cases z), le := (by decide), ho := (fun h v z => by cases z) }
theorem ok_item_of : FnOk PP w K mg base CX0 3 T.f_item_of T.d_item_of ["state", "name"] (spItemOf T.c_State T.c_Item) := by
  refine T.F_item_of.ok sc_item_of (fun vs H Q E h => ?_) (fun cdv A outer s H vs Q E hr h => ?_)
  · obtain ⟨p, n, U, N, σ, rfl, _⟩ := h
    rfl
  · obtain ⟨p, n, U, N, σ, rfl, st, k⟩ := h
    refine ⟨_, pss_cons (ps_if (pt_cmp (pc_din (hu_of hr) (pv 1) (pe_fld (pv 0) rfl)))
 (pss_one (ps_ret (pe_dget (hu_of hr) (pe_fld (pv 0) rfl) (pv 1) (fun _ _ => rfl))))
 pss_nil)
 (pss_one (ps_ret (pe_make T.mk_Item (ok_Item_init T) (hr.mono (by decide)) (by rfl) T.g_Item (b_Item_init T) .nil pass0 (pa_cons (pe_tup (pa_cons (pe_tup (pa_cons pe_int (pa_cons pe_int pa_nil))) pa_nil)) (pa_cons pe_non (pa_cons pe_non (pa_cons pe_int pa_nil))))))), ?_⟩
    obtain ⟨dx, ds, dv, db, hp, n1, n2, n3, D1, D2, D3⟩ := st.ex
    obtain ⟨kvs, hd, nd, hP⟩ := D1.ex
    have g := DGet.k (k := Sum.inr n) hd
    have hn := hP (.inr n)
    refine ⟨_, rfl, _, rfl, p, T.c_State, dx, _, _, rfl, hp, T.cl_State, T.na_State_store, rfl, ds, _, rfl, g, ?_⟩
    cases e : valV kvs (Sum.inr n) with
    | some v =>
      rw [e] at hn g
      obtain ⟨q, rfl, _, hq, wf⟩ := hn
      exact ⟨_, rfl, iteT ⟨_, rfl, p, T.c_State, dx, _, _, rfl, hp, T.cl_State, T.na_State_store, rfl, _, rfl, ds, _, rfl, g, k H q (Same.refl H) hq wf⟩⟩
    | none =>
      rw [e] at hn
      have hn : σ.it n = it0 := hn
      have two : 2 ≤ sizeLine := by decide
      have one : 1 ≤ sizeLine := by decide
      refine ⟨_, rfl, iteF ⟨two, fun t nt => ⟨one, fun u nu x dx' nx ndx ne => mk_item nx ndx fun H' sm hx => ⟨rfl, k H' x ?_ ?_ ?_⟩⟩⟩⟩
      · exact (same_new (same_new (Same.refl H) nt) nu).trans sm
      · rw [hn]
        exact ⟨dx', u, hx, [t], sm _ _ upd_same, .cons (sm _ _ (kp nu upd_same)) .nil⟩
      · rw [hn]; exact wf0
end
end K27

/-! Dict comprehensions over any walk, what stays while a dict is locked, dicts made key by key. -/
namespace MIR
open PySem L2 CM BK
section
variable {J : It} {n : Nat} {G : Hp → Prop} {Y : Nat → Hp → V → Hp → Prop}
/-- a dict comprehension over a walk: Pv by the turn and the heap, the new dict at D within -/
theorem dc_it {J : L2.It} (w : Walk J n G Y) {g : TG} {tt : TT} {tk tv : TE} {vs : List Nat} {σ : L2.St} {H1 : Hp} {D : Addr} {Qd : Hp → Prop} (Pv : Nat → Hp → Prop) (h0 : Pv 0 (upd H1 D (.dK []))) (hG : ∀ i H, i ≤ n → Pv i H → G H)
    (hs : ∀ i x H H', i < n → Pv i H → Y i H x H' → g x (wipe σ vs) H' fun σ2 H2 => wipe σ2 vs = wipe σ vs ∧ tt σ2 H2 fun b H3 =>
      if b = true then tk σ2 H3 fun y H4 => tv σ2 H4 fun z H5 => ∃ kvs k, y = kV k ∧ H5 D = some (.dK kvs) ∧ kvs.length < sizeLine ∧ Pv (i + 1) (upd H5 D (.dK (putK kvs k z))) else Pv (i + 1) H3) (hd : ∀ H, Pv n H → Qd H) :
    ∃ W : Nat → Nat → Hp → Prop, (∃ m, W 0 m (upd H1 D (.dK []))) ∧ ∀ i m H, W i m H →
      (J.stop i H ∧ Qd H) ∨ (J.go i H ∧ ∃ Nx : Hp → Prop, (∀ H', Nx H' → ∃ m', m' < m ∧ W (i + 1) m' H') ∧ ∀ x H', J.yld i H x H' → g x (wipe σ vs) H' fun σ2 H2 => wipe σ2 vs = wipe σ vs ∧ tt σ2 H2 fun b H3 =>
        if b = true then tk σ2 H3 fun y H4 => tv σ2 H4 fun z H5 => ∃ kvs k, y = kV k ∧ H5 D = some (.dK kvs) ∧ kvs.length < sizeLine ∧ Nx (upd H5 D (.dK (putK kvs k z))) else Nx H3) := by
  refine ⟨fun i m H => i ≤ n ∧ m + i = n ∧ Pv i H, ⟨n, Nat.zero_le _, rfl, h0⟩, fun i m H ⟨hi, e, p⟩ => ?_⟩
  have gg := hG i H hi p
  rcases Nat.lt_or_ge i n with h | h
  · exact .inr ⟨w.goes i H h gg, Pv (i + 1), fun H' q => ⟨n - (i + 1), by omega, by omega, by omega, q⟩, fun x H' y => hs i x H H' h p (w.yields i H x H' h gg y)⟩
  · obtain rfl : i = n := Nat.le_antisymm hi h
    exact .inl ⟨w.stops H gg, hd H p⟩
end
/-- what never changes -/
def Stab : HO → Prop
  | .ins _ _ _ => True
  | .tup _ => True
  | _ => False
def SameT (H H' : Hp) : Prop := ∀ b o, Stab o → H b = some o → H' b = some o
section
variable {H H' H'' : Hp} {C p q k d : Addr} {i : It}
theorem SameT.of (s : Same H H') : SameT H H' := fun b o _ h => s b o h
theorem SameT.refl : SameT H H := fun _ _ _ h => h
theorem SameT.trans (s : SameT H H') (t : SameT H' H'') : SameT H H'' := fun b o z h => t b o z (s b o z h)
theorem SameT.chg {o o' : HO} (h : H p = some o) (n : ¬ Stab o) : SameT H (upd H p o') := fun b x z e => by
  rw [upd_ne (fun q => by subst q; rw [h] at e; cases e; exact n z)]
  exact e
theorem SameT.new {o' : HO} (h : H p = none) : SameT H (upd H p o') := fun b x z e => by
  rw [upd_ne (ne_of_none e h)]
  exact e
theorem KeptAt.sameT {vs : List (Int × Int)} (h : KeptAt H k vs) (s : SameT H H') : KeptAt H' k vs := by
  obtain ⟨ps, h1, h2⟩ := h
  exact ⟨ps, s _ _ trivial h1, h2.mono fun a b r => s a (.tup [.int b.1, .int b.2]) trivial r⟩
theorem ItAt.sameT (h : ItAt C H p i) (s : SameT H H') : ItAt C H' p i := by
  obtain ⟨dx, k, h1, h2⟩ := h
  exact ⟨dx, k, s _ _ trivial h1, h2.sameT s⟩
theorem OvAt.sameT {v : V} (s : SameT H H') : ∀ {o : OV}, OvAt H v o → OvAt H' v o
  | .non, h => h
  | .int _, h => h
  | .tup _, ⟨q, h1, h2⟩ => ⟨q, h1, s _ _ trivial h2⟩
theorem OutAt.sameT {o : Out} (h : OutAt H p o) (s : SameT H H') : OutAt H' p o := by
  obtain ⟨m, v, f, h1, h2, h3, h4⟩ := h
  exact ⟨m, v, f, s _ _ trivial h1, s _ _ trivial h2, h3.sameT s, s _ _ trivial h4⟩
end
/-- while the thing at d is locked -/
structure LockS (d : Addr) (od : Obj) (u : HO) (H H' : Hp) : Prop where
  at_ : H' d = some (.frz od u)
  but : ∀ b o, b ≠ d → H b = some o → H' b = some o
section
variable {d p : Addr} {od : Obj} {u : HO} {H H' H'' : Hp}
theorem LockS.start : LockS d od u H (upd H d (.frz od u)) := ⟨upd_same, fun b o n h => by rw [upd_ne n]; exact h⟩
theorem LockS.same (l : LockS d od u H H') (s : Same H' H'') : LockS d od u H H'' := ⟨s _ _ l.at_, fun b o n h => s _ _ (l.but b o n h)⟩
theorem LockS.new (l : LockS d od u H H') {o : HO} (h : H' p = none) : LockS d od u H (upd H' p o) := l.same (CM.same_new (Same.refl _) h)
/-- a thing that is not in H is changed -/
theorem LockS.put (l : LockS d od u H H') {o : HO} (h : H p = none) (n : p ≠ d) : LockS d od u H (upd H' p o) :=
  ⟨by rw [upd_ne n.symm]; exact l.at_, fun b x nb z => by rw [upd_ne (ne_of_none z h)]; exact l.but b x nb z⟩
theorem LockS.free (l : LockS d od u H H') (h : H' p = none) (hd : H d = some u) : H p = none := by
  cases e : H p with
  | none => rfl
  | some o =>
    by_cases q : p = d
    · rw [q, l.at_] at h; cases h
    · rw [l.but p o q e] at h; cases h
theorem LockS.unlock (l : LockS d od u H H') (hd : H d = some u) : Same H (upd H' d u) := fun b o h => by
  by_cases q : b = d
  · rw [q, upd_same, ← hd, ← q]; exact h
  · rw [upd_ne q]; exact l.but b o q h
end
/-- a dict made along the keys of another one -/
structure Made (kvs nkv : List (Key × V)) (i : Nat) (R : Key → V → Prop) : Prop where
  keys : nkv.map (·.1) = (kvs.take i).map (·.1)
  vals : ∀ x ∈ nkv, R x.1 x.2
section
variable {kvs nkv : List (Key × V)} {i : Nat} {R R' : Key → V → Prop} {k : Key} {v z : V}
theorem Made.nil : Made kvs [] 0 R := ⟨rfl, fun x h => by cases h⟩
theorem Made.mono (m : Made kvs nkv i R) (h : ∀ k v, R k v → R' k v) : Made kvs nkv i R' := ⟨m.keys, fun x q => h _ _ (m.vals x q)⟩
theorem keys_take (h : kvs[i]? = some (k, v)) : (kvs.take (i + 1)).map (·.1) = (kvs.take i).map (·.1) ++ [k] := by
  rw [List.take_add_one, h, List.map_append]; rfl
theorem key_new (nd : (kvs.map (·.1)).Nodup) (h : kvs[i]? = some (k, v)) : k ∉ (kvs.take i).map (·.1) := by
  intro z
  have e := keys_take h
  have s : ((kvs.take (i + 1)).map (·.1)).Nodup := by
    rw [List.map_take]
    exact nd.sublist (List.take_sublist _ _)
  rw [e] at s
  exact (List.nodup_append.mp s).2.2 k z k (List.mem_singleton.mpr rfl) rfl
theorem Made.step (m : Made kvs nkv i R) (nd : (kvs.map (·.1)).Nodup) (h : kvs[i]? = some (k, v)) (r : R k z) : Made kvs (putK nkv k z) (i + 1) R := by
  have nk : k ∉ nkv.map (·.1) := by rw [m.keys]; exact key_new nd h
  have vn : valV nkv k = none := by
    cases e : valV nkv k with
    | none => rfl
    | some y => exact absurd (valV_in e) nk
  rw [putK_new z vn]
  refine ⟨by rw [List.map_append, m.keys, keys_take h]; rfl, fun x hx => ?_⟩
  rcases List.mem_append.mp hx with hx | hx
  · exact m.vals x hx
  · rw [List.mem_singleton.mp hx]; exact r
theorem Made.len (m : Made kvs nkv i R) : nkv.length ≤ kvs.length := by
  have e := congrArg List.length m.keys
  rw [List.length_map, List.length_map, List.length_take] at e
  omega
theorem Made.done (m : Made kvs nkv kvs.length R) (nd : (kvs.map (·.1)).Nodup) : (nkv.map (·.1)).Nodup ∧ (∀ k, valV nkv k = none ↔ valV kvs k = none) ∧ ∀ k v, valV nkv k = some v → R k v := by
  have e := m.keys
  rw [List.take_length] at e
  have nd' : (nkv.map (·.1)).Nodup := by rw [e]; exact nd
  have ino : ∀ {l : List (Key × V)} {k : Key}, valV l k = none ↔ k ∉ l.map (·.1) := fun {l k} => ⟨fun h => valV_not h, fun h => by
    cases q : valV l k with
    | none => rfl
    | some y => exact absurd (valV_in q) h⟩
  refine ⟨nd', fun k => by rw [ino, ino, e], fun k v h => ?_⟩
  have hk := valV_in h
  obtain ⟨x, hx, ex⟩ := List.mem_map.mp hk
  have z := val_nodup nd' x hx
  rw [ex] at z
  rw [h] at z
  have r := m.vals x hx
  rw [ex, ← Option.some.inj z] at r
  exact r
theorem val_at (nd : (kvs.map (·.1)).Nodup) (h : kvs[i]? = some (k, v)) : valV kvs k = some v := val_nodup nd (k, v) (List.mem_of_getElem? h)
theorem nd_put (nd : (kvs.map (·.1)).Nodup) : ((putK kvs k v).map (·.1)).Nodup := by
  cases e : valV kvs k with
  | none => exact nd_putK v nd e
  | some y =>
    have : putK kvs k v = kvs.map fun kv => if kv.1 = k then (kv.1, v) else kv := by
      unfold putK
      rw [valV_any, e]; rfl
    rw [this, List.map_map]
    have f : (fun kv : Key × V => (if kv.1 = k then (kv.1, v) else kv).1) = fun kv => kv.1 := by
      funext kv; split <;> rfl
    have : List.map ((fun x : Key × V => x.1) ∘ fun kv => if kv.1 = k then (kv.1, v) else kv) kvs = kvs.map (·.1) := congrArg (fun g => List.map g kvs) f
    rw [this]
    exact nd
/-- a dict's size by what its keys are among -/
theorem len_keys {α : Type} [DecidableEq α] {U : List α} (f : α → Key) (nd : (kvs.map (·.1)).Nodup) (h : ∀ x ∈ kvs, ∃ a ∈ U, x.1 = f a) : kvs.length ≤ U.length := by
  have := nd_le (l := kvs.map (·.1)) (u := U.map f) nd fun x hx => by
    obtain ⟨y, hy, e⟩ := List.mem_map.mp hx
    obtain ⟨a, ha, e2⟩ := h y hy
    exact List.mem_map.mpr ⟨a, ha, by rw [← e2]; exact e⟩
  rwa [List.length_map, List.length_map] at this
end
section
variable {H : Hp} {C d : Addr} {U : List Int} {N : List Str} {σ : S} {kvs : List (Key × V)}
theorem len_store (nd : (kvs.map (·.1)).Nodup) (h : ∀ k, PStore C U N H σ k (valV kvs k)) : kvs.length ≤ N.length := by
  refine len_keys Sum.inr nd fun x hx => ?_
  have e := val_nodup nd x hx
  have z := h x.1
  rw [e] at z
  obtain ⟨k, v⟩ := x
  cases k with
  | inl t => cases z
  | inr n => obtain ⟨q, _, hn, _⟩ := z; exact ⟨n, hn, rfl⟩
theorem len_over (nd : (kvs.map (·.1)).Nodup) (h : ∀ k, POver U σ k (valV kvs k)) : kvs.length ≤ U.length := by
  refine len_keys Sum.inl nd fun x hx => ?_
  have e := val_nodup nd x hx
  have z := h x.1
  rw [e] at z
  obtain ⟨k, v⟩ := x
  cases k with
  | inr t => cases z
  | inl n => obtain ⟨q, _, hn, _⟩ := z; exact ⟨n, hn, rfl⟩
theorem len_bond (nd : (kvs.map (·.1)).Nodup) (h : ∀ k, PBond U H σ k (valV kvs k)) : kvs.length ≤ U.length := by
  refine len_keys Sum.inl nd fun x hx => ?_
  have e := val_nodup nd x hx
  have z := h x.1
  rw [e] at z
  obtain ⟨k, v⟩ := x
  cases k with
  | inr t => cases z
  | inl n => obtain ⟨q, _, hn, _⟩ := z; exact ⟨n, hn, rfl⟩
end
end MIR

namespace K27
open PySem L2 SI CM BK OWN MIR StX TX TL
section
variable {w : World} {K : PySem.W.Frag} {mg : Str → Option Value} {base : Heap} (T : Txt w K mg)
/-- tuple(sorted(..)) of a list of ints -/
def spAsc (K : PySem.W.Frag) : Sp := fun vs H Q _ => ∃ (a : Addr) (ns : List Int), vs = [.ref a] ∧ SqL K H a (ns.map V.int) ∧ ns.length ≤ 900 ∧
  ∀ (H' : Hp) (p : Addr) (ms : List Int), Same H H' → H p = none → ms.Perm ns → ms.Pairwise (· ≤ ·) → H' p = some (.tup (ms.map V.int)) → Q (.ref p) H'
theorem ok_ascending : FnOk PP w K mg base CX0 1 T.f_ascending T.d_ascending ["stamps"] (spAsc K) := by
  refine T.F_ascending.ok sc_ascending (fun vs H Q E h => ?_) (fun cdv A outer s H vs Q E hr h => ?_)
  · obtain ⟨a, ns, rfl, _⟩ := h
    rfl
  · obtain ⟨a, ns, rfl, hS, hl, k⟩ := h
    refine ⟨_, pss_one (ps_ret (pe_callTy call_tuple_of (by rfl) T.n_tuple (by decide +kernel) (pa_cons (pe_callB cr_sortedI (by rfl) T.n_sorted (by decide +kernel) (pa_cons (pe_lc (own := [("stamp", 1)]) (g := gName 1) (tt := tYes) (by rfl) sc_ascending.nd (pi_list (pv 0)) (blkOk_by (N := ["stamps", "stamp"]) (sc := defScope s_ascending) (by decide +kernel)) (fun _ _ _ _ _ => pg_name (i := 1) sc_ascending.nd rfl (Or.inl rfl)) (fun _ _ _ _ _ => pts_nil) (fun _ _ _ _ _ => (pe_callTy call_int1 (by rfl) T.n_int (by decide +kernel) (pa_cons (pv 1) pa_nil)))) pa_nil)) pa_nil))), ?_⟩
    refine ⟨_, rfl, a, rfl, ⟨_, hS⟩, fun D nD => lc_list (K := K) (a := a) (xs := ns.map V.int) (fun i H' => H' D = some (.lst ((ns.take i).map V.int)) ∧ Same H H')
      ⟨upd_same, same_new (Same.refl H) nD⟩ (fun i H' _ h => h.2.seq hS) ?_ ?_⟩
    · rintro i x H1 hx ⟨hD, s1⟩
      rw [List.getElem?_map] at hx
      cases hq : ns[i]? with
      | none => rw [hq] at hx; cases hx
      | some y =>
      rw [hq] at hx
      cases hx
      refine ⟨rfl, _, rfl, .inl ⟨_, rfl, _, hD, small1000 (by rw [List.length_map, List.length_take]; have := (List.getElem?_eq_some_iff.mp hq).1; omega), ?_, fun b o z => ?_⟩⟩
      · rw [upd_same, List.take_add_one, hq, List.map_append]; rfl
      · rw [upd_ne (ne_of_none z nD)]; exact s1 b o z
    · rintro H1 ⟨hD, s1⟩
      rw [List.length_map, List.take_length] at hD
      exact ⟨D, ns, rfl, SqL.of hD, fun ms p pm ps np => ⟨p, _, rfl, .inl ⟨SqL.of upd_same, fun l nl => k _ l ms (same_new (same_new s1 np) nl) (s1.free (by cases e : H1 l with | none => rfl | some o => rw [kp np e] at nl; cases nl)) pm ps upd_same⟩⟩⟩
theorem inV_int (e : Int) (L : List Int) : inV (.int e) (L.map V.int) = decide (e ∈ L) := by
  have eqi : ∀ a b : Int, eqV (.int a) (.int b) = decide (a = b) := fun a b => by
    show (a == b) = _
    by_cases h : a = b
    · subst h; simp
    · rw [decide_eq_false h]; exact beq_eq_false_iff_ne.mpr h
  unfold inV
  rw [List.any_map]
  by_cases h : e ∈ L
  · rw [decide_eq_true h, List.any_eq_true]
    exact ⟨e, h, by show eqV (.int e) (.int e) = true; rw [eqi]; exact decide_eq_true rfl⟩
  · rw [decide_eq_false h, List.any_eq_false]
    intro y hy z
    have z' : eqV (.int y) (.int e) = true := z
    rw [eqi] at z'
    exact h (of_decide_eq_true z' ▸ hy)
theorem flat_ints (L : List Int) : (L.map V.int).all flatV = true := by
  rw [List.all_eq_true]
  intro v hv
  obtain ⟨e, _, rfl⟩ := List.mem_map.mp hv
  rfl
theorem LockS.of {d : Addr} {od : Obj} {u : HO} {H H1 : Hp} (s : Same H H1) : LockS d od u H (upd H1 d (.frz od u)) := ⟨upd_same, fun b o n h => by rw [upd_ne n]; exact s b o h⟩
/-- the list of those that fall, as far as it is made -/
structure Fl (σ : MIR.S) (s : Int) (U fs : List Int) : Prop where
  nd : fs.Nodup
  st : s ∈ fs
  re : ∀ t ∈ fs, Reach σ s t ∧ t ∈ U
def ClF (σ : MIR.S) (fs : List Int) (k : Nat) : Prop := ∀ i u, i < k → fs[i]? = some u → ∀ t, u ∈ σ.bd t → σ.ov t = none → t ∈ fs
theorem Fl.len {σ : MIR.S} {s : Int} {U fs : List Int} (h : Fl σ s U fs) : fs.length ≤ U.length := nd_le h.nd fun t ht => (h.re t ht).2
theorem Fl.isF {σ : MIR.S} {s : Int} {U fs ms : List Int} (h : Fl σ s U fs) (c : ClF σ fs fs.length) (p : ms.Perm fs) (so : ms.Pairwise (· ≤ ·)) : IsF σ s ms := by
  obtain ⟨a, b⟩ := perm_asc p so h.nd
  refine ⟨a, fun t => (b t).trans ⟨fun z => (h.re t z).1, fun z => ?_⟩⟩
  induction z with
  | refl => exact h.st
  | step r hu ho ih =>
    obtain ⟨i, hi, e⟩ := List.mem_iff_getElem.mp ih
    exact c i _ hi (by rw [List.getElem?_eq_getElem hi, e]) _ hu ho
theorem Fl.snoc {σ : MIR.S} {s t u : Int} {U fs : List Int} (h : Fl σ s U fs) (hu : u ∈ fs) (hb : u ∈ σ.bd t) (ho : σ.ov t = none) (nt : t ∉ fs) (tU : t ∈ U) : Fl σ s U (fs ++ [t]) := by
  refine ⟨List.nodup_append.mpr ⟨h.nd, List.nodup_cons.mpr ⟨List.not_mem_nil, List.nodup_nil⟩, fun a ha b hb e => ?_⟩, List.mem_append.mpr (.inl h.st), fun x hx => ?_⟩
  · rw [List.mem_singleton.mp hb] at e
    exact nt (e ▸ ha)
  · rcases List.mem_append.mp hx with hx | hx
    · exact h.re x hx
    · rw [List.mem_singleton.mp hx]
      exact ⟨.step (h.re u hu).1 hb ho, tU⟩
def spFalling (CS CI : Addr) : Sp := fun vs H Q _ => ∃ (p : Addr) (s : Int) (U : List Int) (N : List Str) (σ : MIR.S), vs = [.ref p, .int s] ∧ StAt CS CI U N H p σ ∧ s ∈ U ∧ U.length ≤ 400 ∧
  ∀ (H' : Hp) (q : Addr) (L : List Int), Same H H' → H q = none → IsF σ s L → (∀ t ∈ L, t ∈ U) → H' q = some (.tup (L.map V.int)) → Q (.ref q) H'
theorem ok_falling : FnOk PP w K mg base CX0 2 T.f_falling T.d_falling ["state", "stamp"] (spFalling T.c_State T.c_Item) := by
  refine T.F_falling.ok sc_falling (fun vs H Q E h => ?_) (fun cdv A outer s H vs Q E hr h => ?_)
  · obtain ⟨p, s, U, N, σ, rfl, _⟩ := h
    rfl
  · obtain ⟨p, s, U, N, σ, rfl, st, hs, hU, kk⟩ := h
    refine ⟨_, pss_cons (ps_set (i := 2) sc_falling.nd rfl (.inl rfl) (pe_lst (pa_cons (pv 1) pa_nil)))
 (pss_cons (ps_set (i := 3) sc_falling.nd rfl (.inl rfl) pe_int)
 (pss_cons (ps_while PassesOwn.never (pt_cmpR op_lt (pv 3) (pe_callB call_len_seq (by rfl) T.n_len PySem.boot_len (pa_cons (pv 2) pa_nil)) (nomark _))
 (pss_cons (ps_lock (ps_for PassesOwn.never rfl (pi_items (pe_fld (pv 0) rfl)) (pg_tup rfl (pgs_cons (pg_name (i := 4) sc_falling.nd rfl (.inl rfl)) (pgs_cons (pg_name (i := 5) sc_falling.nd rfl (.inl rfl)) pgs_nil)))
 (pss_one (ps_if (PW.pt (pw_and (pt_cmpR op_in_seq (pe_ix ix_list (pv 2) (pv 3) (fun _ _ => rfl)) (pv 5) rfl) (pw_and (pt_cmp (pc_dnotin (hu_of hr) (pv 4) (pe_fld (pv 0) rfl))) (pw_and1 (pt_cmpR op_notIn_seq (pv 4) (pv 2) rfl)))))
 (pss_one (ps_expr (pe_bm PySem.F.plainAttrs_list PySem.F.slot_list_append PySem.F.type_list_append mt_append (pv 2) (pa_cons (pv 4) pa_nil))))
 pss_nil))))
 (pss_one (ps_aug (i := 3) sc_falling.nd rfl (.inl rfl) pe_int ip_add))))
 (pss_one (ps_ret (pe_call (ok_ascending T) (hr.mono (by decide)) (by rfl) T.g_ascending T.F_ascending.kp (b_ascending T) .nil pass0 (pa_cons (pv 2) pa_nil)))))), ?_⟩
    obtain ⟨dx, ds, dv, db, hp, n1, n2, n3, D1, D2, D3⟩ := st.ex
    obtain ⟨bv, hbv, bnd, hB⟩ := D3.ex
    obtain ⟨ov, hov, ond, hO⟩ := D2.ex
    have one : 1 ≤ sizeLine := by decide
    refine ⟨_, rfl, one, fun F nF => ?_⟩
    have s0 := same_new (o := .lst [.int s]) (Same.refl H) nF
    have Fdb : F ≠ db := fun z => by rw [z, hbv] at nF; cases nF
    refine while_by (fun τ H' => ∃ (fs : List Int) (k : Nat) (v4 v5 : Option V), τ = [some (.ref p), some (.int s), some (.ref F), some (.int (k : Int)), v4, v5] ∧ H' F = some (.lst (fs.map V.int)) ∧ Same H H' ∧ k ≤ fs.length ∧ Fl σ s U fs ∧ ClF σ fs k)
      (fun τ _ => match τ[3]? with | some (some (V.int k)) => U.length + 1 - k.toNat | _ => 0)
      ⟨[s], 0, none, none, rfl, upd_same, s0, Nat.zero_le _, ⟨List.nodup_cons.mpr ⟨List.not_mem_nil, List.nodup_nil⟩, List.mem_singleton.mpr rfl, fun t ht => by rw [List.mem_singleton.mp ht]; exact ⟨.refl, hs⟩⟩, fun i u hi => absurd hi (Nat.not_lt_zero _)⟩ ?_ ?_
    · rintro τ H1 ⟨fs, k, v4, v5, rfl, hF, s1, hk, fl, cl⟩
      refine ⟨_, rfl, _, rfl, F, _, rfl, .inl (SqL.of hF), _, _, rfl, rfl, _, rfl, ?_⟩
      rw [List.length_map]
      by_cases hlt : (k : Int) < (fs.length : Int)
      · rw [decide_eq_true hlt]
        refine iteT ?_
        have hkl : k < fs.length := by omega
        have hku : fs[k]? = some fs[k] := List.getElem?_eq_getElem hkl
        generalize fs[k] = u at hku
        have huM : u ∈ fs := List.mem_of_getElem? hku
        refine ⟨db, .dK bv, s1 _ _ hbv, trivial, fun od => ?_⟩
        have hpL : (upd H1 db (.frz od (.dK bv))) p = _ := (upd_ne (fun z => by rw [z, hbv] at hp; cases hp)).trans (s1 _ _ hp)
        refine ⟨_, rfl, p, T.c_State, dx, _, _, rfl, hpL, T.cl_State, T.na_State_bonds, rfl, db, od, bv, rfl, upd_same, for_it walk_items (fun j τ H' => ∃ (gs : List Int) (v4 v5 : Option V), τ = [some (.ref p), some (.int s), some (.ref F), some (.int (k : Int)), v4, v5] ∧ H' F = some (.lst (gs.map V.int)) ∧ LockS db od (.dK bv) H H' ∧ (∃ ext, gs = fs ++ ext) ∧ Fl σ s U gs ∧ ∀ x ∈ bv.take j, ∀ t, x.1 = Sum.inl t → u ∈ σ.bd t → σ.ov t = none → t ∈ gs)
          ⟨fs, v4, v5, rfl, by rw [upd_ne Fdb]; exact hF, LockS.of s1, ⟨[], (List.append_nil _).symm⟩, fl, fun x hx => by cases hx⟩ (fun j τ H' _ ⟨_, _, _, _, _, l, _⟩ => l.at_) ?_ ?_⟩
        · rintro j x τ H2 H3 hj ⟨gs, v4, v5, rfl, hF2, l2, ⟨ext, eg⟩, fl2, cov⟩ ⟨T', x1, x2, rfl, nT, rfl, e1, e2⟩
          have e1 : bv[j]?.map (fun kv => kV kv.1) = some x1 := e1
          have e2 : bv[j]?.map Prod.snd = some x2 := e2
          cases hq : bv[j]? with
          | none => rw [hq] at e1; cases e1
          | some kv =>
          obtain ⟨kk', v⟩ := kv
          rw [hq] at e1 e2
          cases e1
          cases e2
          have hb := hB kk'
          rw [val_at bnd hq] at hb
          cases kk' with
          | inr _ => cases hb
          | inl t =>
          obtain ⟨q, rfl, tU, hqt, bnodup, bU⟩ := hb
          have l3 := l2.new (o := .tup [kV (Sum.inl t), .ref q]) nT
          have hF3 := kp (o' := .tup [kV (Sum.inl t), .ref q]) nT hF2
          have hT3 : (upd H2 T' (.tup [kV (Sum.inl t), .ref q])) T' = some (.tup [kV (Sum.inl t), .ref q]) := upd_same
          generalize upd H2 T' (.tup [kV (Sum.inl t), .ref q]) = H3 at l3 hF3 hT3
          have qdb : q ≠ db := fun z => by rw [z, hbv] at hqt; cases hqt
          have pdb : p ≠ db := fun z => by rw [z, hbv] at hp; cases hp
          have hq3 := l3.but _ _ qdb hqt
          have hp3 := l3.but _ _ pdb hp
          have hv3 := l3.but _ _ n3 hov
          have hgk : gs[k]? = some u := by rw [eg, List.getElem?_append_left hkl]; exact hku
          have covS : ∀ {hs : List Int}, (∀ y ∈ gs, y ∈ hs) → (u ∈ σ.bd t → σ.ov t = none → t ∈ hs) → ∀ x ∈ bv.take (j + 1), ∀ t, x.1 = Sum.inl t → u ∈ σ.bd t → σ.ov t = none → t ∈ hs := fun {hs} sub last x hx t' ex hb ho => by
            rw [List.take_add_one, hq] at hx
            rcases List.mem_append.mp hx with hx | hx
            · exact sub _ (cov x hx t' ex hb ho)
            · rw [List.mem_singleton.mp hx] at ex
              cases ex
              exact last hb ho
          refine ⟨T', _, rfl, SqT.of hT3, rfl, _, _, rfl, _, _, rfl, rfl, ?_⟩
          refine ⟨_, rfl, _, rfl, F, _, _, .int u, rfl, rfl, SqL.of hF3, atI_nat (by rw [List.getElem?_map, hgk]; rfl), _, rfl, q, (σ.bd t).map V.int, rfl, .inr (SqT.of hq3), rfl, flat_ints _, _, rfl, ?_⟩
          rw [inV_int]
          have stay : (u ∈ σ.bd t → σ.ov t = none → t ∈ gs) → ∃ (gs' : List Int) (v4 v5 : Option V), [some (.ref p), some (.int s), some (.ref F), some (.int (k : Int)), some (.int t), some (.ref q)] = [some (.ref p), some (.int s), some (.ref F), some (.int (k : Int)), v4, v5] ∧ H3 F = some (.lst (gs'.map V.int)) ∧ LockS db od (.dK bv) H H3 ∧ (∃ ext, gs' = fs ++ ext) ∧ Fl σ s U gs' ∧ ∀ x ∈ bv.take (j + 1), ∀ t, x.1 = Sum.inl t → u ∈ σ.bd t → σ.ov t = none → t ∈ gs' := fun h =>
            ⟨gs, _, _, rfl, hF3, l3, ⟨ext, eg⟩, fl2, covS (fun _ h => h) h⟩
          by_cases hu : u ∈ σ.bd t
          · rw [decide_eq_true hu]
            have g := DGet.k (k := Sum.inl t) hv3
            have ho := hO (.inl t)
            refine iteT ⟨_, rfl, _, rfl, p, T.c_State, dx, _, _, rfl, hp3, T.cl_State, T.na_State_over, rfl, dv, _, rfl, g, ?_⟩
            cases e : valV ov (Sum.inl t) with
            | some v =>
              rw [e] at ho
              obtain ⟨b, _, _, eb⟩ := ho
              exact ⟨_, rfl, iteF (iteF (stay fun _ z => by rw [eb] at z; cases z))⟩
            | none =>
              rw [e] at ho
              refine ⟨_, rfl, iteT ⟨_, rfl, _, rfl, F, _, rfl, .inl (SqL.of hF3), rfl, flat_ints _, _, rfl, ?_⟩⟩
              rw [show inV (kV (Sum.inl t)) (gs.map V.int) = decide (t ∈ gs) from inV_int t gs]
              by_cases ht : t ∈ gs
              · rw [decide_eq_true ht]
                exact iteF (stay fun _ _ => ht)
              · rw [decide_eq_false ht]
                have flS := fl2.snoc (List.mem_of_getElem? hgk) hu ho ht tU
                refine iteT ⟨_, rfl, .inl ⟨rfl, _, SqL.of hF3⟩, _, rfl, F, _, _, rfl, rfl, hF3, small1000 (by rw [List.length_map]; have := fl2.len; omega), gs ++ [t], _, _, rfl, ?_, l3.put nF Fdb, ⟨ext ++ [t], by rw [eg, List.append_assoc]⟩, flS, covS (fun y hy => List.mem_append.mpr (.inl hy)) fun _ _ => List.mem_append.mpr (.inr (List.mem_singleton.mpr rfl))⟩
                rw [upd_same, List.map_append]; rfl
          · rw [decide_eq_false hu]
            exact iteF (iteF (stay fun z => absurd z hu))
        · rintro τ H2 ⟨gs, v4, v5, rfl, hF2, l2, ⟨ext, eg⟩, fl2, cov⟩
          refine ⟨l2.at_, ?_⟩
          rw [List.take_length] at cov
          refine ⟨_, rfl, _, _, rfl, rfl, ⟨gs, k + 1, v4, v5, rfl, ?_, l2.unlock hbv, by rw [eg, List.length_append]; omega, fl2, ?_⟩, ?_⟩
          · rw [upd_ne Fdb]; exact hF2
          · intro i u' hi hu' t hb ho
            by_cases hik : i < k
            · have : fs[i]? = some u' := by rw [eg, List.getElem?_append_left (by omega)] at hu'; exact hu'
              rw [eg]
              exact List.mem_append.mpr (.inl (cl i u' hik this t hb ho))
            · obtain rfl : i = k := by omega
              rw [eg, List.getElem?_append_left hkl, hku] at hu'
              cases hu'
              have hbt := hB (.inl t)
              cases e : valV bv (Sum.inl t) with
              | none => rw [e] at hbt; rw [show σ.bd t = [] from hbt] at hb; cases hb
              | some v =>
                have := valV_in e
                obtain ⟨x, hx, ex⟩ := List.mem_map.mp this
                exact cov x hx t ex hb ho
          · show U.length + 1 - ((k : Int) + 1).toNat < U.length + 1 - (k : Int).toNat
            have := fl.len
            omega
      · rw [decide_eq_false hlt]
        obtain rfl : k = fs.length := by omega
        exact iteF ⟨_, rfl, F, fs, rfl, SqL.of hF, by have := fl.len; omega, fun H' q ms sm nq pm ps hq => kk H' q ms (s1.trans sm) (s1.free nq) (fl.isF cl pm ps) (fun t ht => (fl.re t (pm.mem_iff.mp ht)).2) hq⟩
    · rintro τ H1 Q1 Q2 hQ ⟨v, e1, u, e2, a, xs, e3, e4, i, j, e5, e6, b, e7, q⟩
      exact ⟨v, e1, u, e2, a, xs, e3, e4, i, j, e5, e6, b, e7, hQ _ _ q⟩
end
end K27

namespace K27
open PySem L2 SI CM BK OWN MIR StX TX TL
section
variable {w : World} {K : PySem.W.Frag} {mg : Str → Option Value} {base : Heap} (T : Txt w K mg)
def spReleased (CI : Addr) : Sp := fun vs H Q _ => ∃ (p f : Addr) (i : MIR.It) (L : List Int), vs = [.ref p, .ref f] ∧ ItAt CI H p i ∧ H f = some (.tup (L.map V.int)) ∧ ∀ (H' : Hp) (q : Addr), Same H H' → ItAt CI H' q (relI L i) → Q (.ref q) H'
theorem ok_released : FnOk PP w K mg base CX0 3 T.f_released T.d_released ["item", "fallen"] (spReleased T.c_Item) := by
  refine T.F_released.ok sc_released (fun vs H Q E h => ?_) (fun cdv A outer s H vs Q E hr h => ?_)
  · obtain ⟨p, f, i, L, rfl, _⟩ := h
    rfl
  · obtain ⟨p, f, i, L, rfl, hi, hf, kk⟩ := h
    refine ⟨_, pss_cons (ps_if (pt_cmpR op_notIn_seq (pe_fld (pv 0) rfl) (pv 1) rfl)
 (pss_one (ps_ret (pv 0)))
 pss_nil)
 (pss_one (ps_ret (pe_make T.mk_Item (ok_Item_init T) (hr.mono (by decide)) (by rfl) T.g_Item (b_Item_init T) .nil pass0 (pa_cons (pe_fld (pv 0) rfl) (pa_cons pe_non (pa_cons pe_non (pa_cons (pe_fld (pv 0) rfl) pa_nil))))))), ?_⟩
    obtain ⟨dx, ka, hp, hk⟩ := hi
    have fl : flatV (hV i) = true := by unfold hV; split <;> rfl
    refine ⟨_, rfl, p, T.c_Item, dx, _, _, rfl, hp, T.cl_Item, T.na_Item_holder, rfl, _, rfl, f, L.map V.int, rfl, .inr (SqT.of hf), fl, flat_ints _, _, rfl, ?_⟩
    cases ho : i.opn with
    | none =>
      have e0 : hV i = .non := by unfold hV; rw [ho]
      have e1 : inV (hV i) (L.map V.int) = false := by
        rw [e0]; unfold inV; rw [List.any_map, List.any_eq_false]; intro y _ z; exact absurd z (by simp [eqV])
      have e2 : relI L i = i := by unfold relI; rw [ho]
      rw [e2] at kk
      rw [e1]
      exact iteT ⟨_, rfl, kk H p (Same.refl H) ⟨dx, ka, hp, hk⟩⟩
    | some hv =>
      obtain ⟨h, v⟩ := hv
      have e0 : hV i = .int h := by unfold hV; rw [ho]
      have e1 : inV (hV i) (L.map V.int) = decide (h ∈ L) := by rw [e0, inV_int]
      rw [e1]
      by_cases hL : h ∈ L
      · rw [decide_eq_true hL]
        have e2 : relI L i = { i with opn := none } := by unfold relI; rw [ho]; exact if_pos hL
        rw [e2] at kk
        refine iteF ⟨_, rfl, p, T.c_Item, dx, _, _, rfl, hp, T.cl_Item, T.na_Item_kept, rfl, _, rfl, p, T.c_Item, dx, _, _, rfl, hp, T.cl_Item, T.na_Item_reader, rfl, fun x dx' nx ndx ne => mk_item nx ndx fun H' sm hx => ⟨rfl, kk H' x sm ⟨dx', ka, hx, hk.same sm⟩⟩⟩
      · rw [decide_eq_false hL]
        have e2 : relI L i = i := by unfold relI; rw [ho]; exact if_neg hL
        rw [e2] at kk
        exact iteT ⟨_, rfl, kk H p (Same.refl H) ⟨dx, ka, hp, hk⟩⟩
theorem sIx_neg (n k : Nat) (h : 1 ≤ k) : HT.sIx n 0 (some (-(k : Int))) = n - k := by
  have e := HT.clip_eq (-(k : Int)) n 0
  rw [if_pos (by omega)] at e
  omega
theorem map_lastN {α β : Type} (g : α → β) (k : Nat) (l : List α) : lastN k (l.map g) = (lastN k l).map g := by
  unfold lastN
  rw [List.length_map, List.map_drop]
def spSettled (CI : Addr) : Sp := fun vs H Q _ => ∃ (p : Addr) (i : MIR.It) (s : Int) (k : Nat), vs = [.ref p, .int s, .int (k : Int)] ∧ ItAt CI H p i ∧ i.kept.length ≤ 20 ∧ 1 ≤ k ∧ ∀ (H' : Hp) (q : Addr), Same H H' → ItAt CI H' q (setI s k i) → Q (.ref q) H'
theorem ok_settled : FnOk PP w K mg base CX0 3 T.f_settled T.d_settled ["item", "stamp", "keep"] (spSettled T.c_Item) := by
  refine T.F_settled.ok sc_settled (fun vs H Q E h => ?_) (fun cdv A outer s H vs Q E hr h => ?_)
  · obtain ⟨p, i, s, k, rfl, _⟩ := h
    rfl
  · obtain ⟨p, i, s, k, rfl, hi, h20, h1, kk⟩ := h
    refine ⟨_, pss_cons (ps_if (pt_cmpR op_ne (pe_fld (pv 0) rfl) (pv 1) (nomark _))
 (pss_one (ps_ret (pv 0)))
 pss_nil)
 (pss_cons (ps_set (i := 3) sc_settled.nd rfl (.inl rfl) (pe_tup (pa_star (pe_fld (pv 0) rfl) (pa_cons (pe_tup (pa_cons (pv 1) (pa_cons (pe_fld (pv 0) rfl) pa_nil))) pa_nil))))
 (pss_one (ps_ret (pe_make T.mk_Item (ok_Item_init T) (hr.mono (by decide)) (by rfl) T.g_Item (b_Item_init T) .nil pass0 (pa_cons (pe_slice sl_tupA (pv 3) (po_some (pe_un un_neg (pv 2))) po_none) (pa_cons pe_non (pa_cons pe_non (pa_cons (pe_fld (pv 0) rfl) pa_nil)))))))), ?_⟩
    obtain ⟨dx, ka, hp, hk⟩ := hi
    have sc : scal (hV i) (.int s) = true := by unfold hV; split <;> rfl
    refine ⟨_, rfl, p, T.c_Item, dx, _, _, rfl, hp, T.cl_Item, T.na_Item_holder, rfl, _, rfl, sc, _, rfl, ?_⟩
    cases ho : i.opn with
    | none =>
      have e0 : hV i = .non := by unfold hV; rw [ho]
      have e2 : setI s k i = i := by unfold setI; rw [ho]
      rw [e2] at kk
      rw [e0, decide_eq_false (by intro z; cases z)]
      exact iteT ⟨_, rfl, kk H p (Same.refl H) ⟨dx, ka, hp, hk⟩⟩
    | some hv =>
      obtain ⟨h, v⟩ := hv
      have e0 : hV i = .int h := by unfold hV; rw [ho]
      have e1 : vV i = .int v := by unfold vV; rw [ho]
      rw [e0]
      by_cases hL : h = s
      · subst hL
        rw [decide_eq_true rfl]
        have e2 : setI h k i = { i with kept := lastN k (i.kept ++ [(h, v)]), opn := none } := by unfold setI; rw [ho]; exact if_pos rfl
        rw [e2] at kk
        obtain ⟨ps, hka, hps⟩ := hk
        have two : 2 ≤ sizeLine := by decide
        refine iteF ⟨_, rfl, p, T.c_Item, dx, _, _, rfl, hp, T.cl_Item, T.na_Item_kept, rfl, ka, ps.map V.ref, rfl, .inl (SqT.of hka), _, rfl, _, rfl, p, T.c_Item, dx, _, _, rfl, hp, T.cl_Item, T.na_Item_value, rfl, two, fun t nt => ?_⟩
        rw [e1]
        have s1 := same_new (o := .tup [.int h, .int v]) (Same.refl H) nt
        have ht : (upd H t (.tup [.int h, .int v])) t = some (.tup [.int h, .int v]) := upd_same
        generalize upd H t (.tup [.int h, .int v]) = H1 at s1 ht
        refine ⟨by rw [List.length_append, List.length_map]; show ps.length + 1 ≤ _; rw [hps.len]; exact Nat.le_trans (show i.kept.length + 1 ≤ 21 by omega) (by decide), fun u nu => ?_⟩
        have hl : ps.map V.ref ++ [V.ref t] = (ps ++ [t]).map V.ref := by rw [List.map_append]; rfl
        rw [hl]
        have s2 := same_new (o := .tup ((ps ++ [t]).map V.ref)) s1 nu
        have hu : (upd H1 u (.tup ((ps ++ [t]).map V.ref))) u = some (.tup ((ps ++ [t]).map V.ref)) := upd_same
        have ht2 := kp (o' := .tup ((ps ++ [t]).map V.ref)) nu ht
        generalize upd H1 u (.tup ((ps ++ [t]).map V.ref)) = H2 at s2 hu ht2
        have f2 : F2 (VerAt H2) (ps ++ [t]) (i.kept ++ [(h, v)]) := (hps.mono fun a b r => r.same s2).snoc ht2
        have hp2 := s2 _ _ hp
        have fin : ∀ (H3 : Hp) (y : Addr), Same H2 H3 → H3 y = some (.tup ((lastN k (ps ++ [t])).map V.ref)) → KeptAt H3 y (lastN k (i.kept ++ [(h, v)])) := fun H3 y s3 hy =>
          ⟨_, hy, by unfold lastN; rw [f2.len]; exact (f2.drop _).mono fun a b r => r.same s3⟩
        have rest : ∀ (H3 : Hp) (y : Addr), Same H2 H3 → H3 y = some (.tup ((lastN k (ps ++ [t])).map V.ref)) → ∀ x dx', H3 x = none → H3 dx' = none → dx' ≠ x → spItemI T.c_Item [.ref x, .ref y, .non, .non, .int i.rd] (upd (upd H3 dx' (.own x)) x (.ins T.c_Item dx' [])) (fun r H4 => r = .non ∧ Q (.ref x) H4) E0 := fun H3 y s3 hy x dx' nx ndx ne =>
          mk_item nx ndx fun H' sm hx => ⟨rfl, kk H' x ((s2.trans s3).trans sm) ⟨dx', y, hx, (fin H3 y s3 hy).same sm⟩⟩
        refine ⟨_, rfl, _, rfl, _, rfl, _, rfl, u, _, rfl, SqT.of hu, fun hw => ?_, fun hw y ny => ?_⟩
        · have ew : (lastN k (ps ++ [t])).map V.ref = (ps ++ [t]).map V.ref := by
            have := hw.1
            rw [sIx_neg _ _ h1, List.length_map] at this
            unfold lastN
            rw [this, List.drop_zero]
          refine ⟨_, rfl, p, T.c_Item, dx, _, _, rfl, hp2, T.cl_Item, T.na_Item_reader, rfl, ?_⟩
          exact rest H2 u (Same.refl _) (by rw [ew]; exact hu)
        · have ew : cutV ((ps ++ [t]).map V.ref) (some (-(k : Int))) none = (lastN k (ps ++ [t])).map V.ref := by
            unfold cutV lastN
            rw [sIx_neg _ _ h1, HT.sIx_none, List.length_map, List.map_drop]
            exact List.take_of_length_le (by rw [List.length_drop, List.length_map]; exact Nat.le_refl _)
          rw [ew]
          have s3 := same_new (o := .tup ((lastN k (ps ++ [t])).map V.ref)) (Same.refl H2) ny
          refine ⟨_, rfl, p, T.c_Item, dx, _, _, rfl, s3 _ _ hp2, T.cl_Item, T.na_Item_reader, rfl, ?_⟩
          exact rest _ y s3 upd_same
      · rw [decide_eq_false (fun z => hL (V.int.inj z))]
        have e2 : setI s k i = i := by unfold setI; rw [ho]; exact if_neg hL
        rw [e2] at kk
        exact iteT ⟨_, rfl, kk H p (Same.refl H) ⟨dx, ka, hp, hk⟩⟩
end
end K27

/-! Steps of the states' dicts. -/
namespace MIR
open PySem L2 CM BK
section
variable {H H' : Hp} {C d : Addr} {U : List Int} {N : List Str} {σ σ' : S} {kvs nkv : List (Key × V)} {t : Int} {b : Bool}
theorem over_put (nd : (kvs.map (·.1)).Nodup) (hP : ∀ k, POver U σ k (valV kvs k)) (ht : t ∈ U) (h1 : σ'.ov t = some b) (h2 : ∀ x, x ≠ t → σ'.ov x = σ.ov x) :
    ((putK kvs (Sum.inl t) (.str (ovS b))).map (·.1)).Nodup ∧ ∀ k, POver U σ' k (valV (putK kvs (Sum.inl t) (.str (ovS b))) k) := by
  refine ⟨nd_put nd, fun k => ?_⟩
  rw [valV_put]
  by_cases e : k = Sum.inl t
  · rw [if_pos e, e]
    exact ⟨b, rfl, ht, h1⟩
  · rw [if_neg e]
    have z := hP k
    cases k with
    | inr n => exact z
    | inl x =>
      have nx : x ≠ t := fun q => e (by rw [q])
      have q := h2 x nx
      cases e2 : valV kvs (Sum.inl x) with
      | none => rw [e2] at z; exact q.trans z
      | some v =>
        rw [e2] at z
        obtain ⟨b', h3, h4, h5⟩ := z
        exact ⟨b', h3, h4, q.trans h5⟩
theorem over_congr (hP : ∀ k, POver U σ k (valV kvs k)) (h : ∀ x, σ'.ov x = σ.ov x) : ∀ k, POver U σ' k (valV kvs k) := fun k => by
  have z := hP k
  cases k with
  | inr n => exact z
  | inl x =>
    cases e2 : valV kvs (Sum.inl x) with
    | none => rw [e2] at z; exact (h x).trans z
    | some v => rw [e2] at z; obtain ⟨b', h3, h4, h5⟩ := z; exact ⟨b', h3, h4, (h x).trans h5⟩
def RSt (C : Addr) (U : List Int) (N : List Str) (H : Hp) (g : Str → It) : Key → V → Prop := fun k v => ∃ n q, k = .inr n ∧ v = .ref q ∧ n ∈ N ∧ ItAt C H q (g n) ∧ WfI U (g n)
theorem RSt.sameT {g : Str → It} (s : SameT H H') : ∀ k v, RSt C U N H g k v → RSt C U N H' g k v := fun k v ⟨n, q, h1, h2, h3, h4, h5⟩ => ⟨n, q, h1, h2, h3, h4.sameT s, h5⟩
theorem store_map {g : It → It} (h0 : g it0 = it0) (nd : (kvs.map (·.1)).Nodup) (hP : ∀ k, PStore C U N H σ k (valV kvs k)) (m : Made kvs nkv kvs.length (RSt C U N H' fun n => g (σ.it n))) (e : ∀ n, σ'.it n = g (σ.it n)) :
    (nkv.map (·.1)).Nodup ∧ ∀ k, PStore C U N H' σ' k (valV nkv k) := by
  obtain ⟨a, b, c⟩ := m.done nd
  refine ⟨a, fun k => ?_⟩
  have z := hP k
  cases k with
  | inl x =>
    have : valV kvs (Sum.inl x) = none := z
    exact (b _).mpr this
  | inr n =>
    cases e2 : valV nkv (Sum.inr n) with
    | none =>
      rw [(b _).mp e2] at z
      show σ'.it n = it0
      rw [e n, show σ.it n = it0 from z, h0]
    | some v =>
      obtain ⟨n', q, h1, h2, h3, h4, h5⟩ := c _ _ e2
      cases h1
      exact ⟨q, h2, h3, by rw [e n]; exact h4, by rw [e n]; exact h5⟩
theorem bond_congr (hP : ∀ k, PBond U H σ k (valV kvs k)) (s : Same H H') (h : ∀ x, σ'.bd x = σ.bd x) : ∀ k, PBond U H' σ' k (valV kvs k) := fun k => by
  have z := hP k
  cases k with
  | inr n => exact z
  | inl x =>
    cases e2 : valV kvs (Sum.inl x) with
    | none => rw [e2] at z; exact (h x).trans z
    | some v =>
      rw [e2] at z
      obtain ⟨q, h3, h4, h5, h6, h7⟩ := z
      exact ⟨q, h3, h4, by rw [h x]; exact s _ _ h5, by rw [h x]; exact h6, by rw [h x]; exact h7⟩
theorem store_congr (hP : ∀ k, PStore C U N H σ k (valV kvs k)) (s : SameT H H') (h : ∀ x, σ'.it x = σ.it x) : ∀ k, PStore C U N H' σ' k (valV kvs k) := fun k => by
  have z := hP k
  cases k with
  | inl n => exact z
  | inr x =>
    cases e2 : valV kvs (Sum.inr x) with
    | none => rw [e2] at z; exact (h x).trans z
    | some v =>
      rw [e2] at z
      obtain ⟨q, h3, h4, h5, h6⟩ := z
      exact ⟨q, h3, h4, by rw [h x]; exact h5.sameT s, by rw [h x]; exact h6⟩
theorem relI0 {L : List Int} : relI L it0 = it0 := rfl
theorem setI0 {s : Int} {k : Nat} : setI s k it0 = it0 := rfl
theorem WfI.rel {L : List Int} {i : It} (w : WfI U i) : WfI U (relI L i) := by
  unfold relI
  split
  · split
    · exact { ne := w.ne, le := w.le, ho := fun h v z => by cases z }
    · exact w
  · exact w
theorem WfI.set {s : Int} {k : Nat} {i : It} (w : WfI U i) (h1 : 1 ≤ k) (h2 : k ≤ 20) : WfI U (setI s k i) := by
  unfold setI
  split
  · split
    · refine { ne := ?_, le := ?_, ho := fun h v z => by cases z }
      · show lastN k (i.kept ++ [_]) ≠ []
        intro z
        have := congrArg List.length z
        unfold lastN at this
        rw [List.length_drop, List.length_append] at this
        simp at this
        omega
      · show (lastN k (i.kept ++ [_])).length ≤ 20
        unfold lastN
        rw [List.length_drop, List.length_append]
        have := w.le
        simp
        omega
    · exact w
  · exact w
end
end MIR

/-! y = {k: v for ..}: the target is stored within the comprehension's frame. -/
namespace DCS
open PySem PySem.Spec PyProof.Rows L2
section
variable {X : Cx}
abbrev BlkAll (X : Cx) (scope : Scope) (R : Cx → Prop) : Prop := ∀ (s : Shared) (H : Hp) (C : Addr) (cl : List (Str × Addr)) (fp : List Addr), R (X.blk s H scope (compEnvC scope cl C X.env) fp)
theorem ps_setDc {i : Nat} {y : Str} {kx vx tg it : Expr} {ifs : List Expr} {scope : Scope} {own : List (Str × Nat)} {py pos spos : Pos} {wi : TI} {g : TG} {tt : TT} {tk tv : TE}
    (hc : X.calm = true) (hN : X.N.Nodup) (hy : X.N[i]? = some y) (hyl : X.env.scope.names.lookup y = some .local) (hsw : swapsWith (.DictComp kx vx [⟨tg, it, ifs, 0⟩] scope pos) (some (.Name y py)) spos.line X.env = pure true)
    (hi : PI X tg it wi) (ok : BlkOk X.N X.env.scope scope own) (hg : BlkAll X scope fun Z => PG Z tg g) (ht : BlkAll X scope fun Z => PTs Z ifs tt) (hk : BlkAll X scope fun Z => PE Z kx tk) (he : BlkAll X scope fun Z => PE Z vx tv)
    (hs : ∀ x, foldedSetIterable it X.env x = pure x := by intro _; rfl) :
    PS X (.Assign [.Name y py] (.DictComp kx vx [⟨tg, it, ifs, 0⟩] scope pos) spos) (tAsg (tDc wi g tt tk tv (own.map (·.2))) (gName i)) := by
  refine ⟨fun pins s σ H D I h0 => ?_⟩
  rw [exec_Assign_Name_used _ _ _ _ hsw]
  refine wpAny_bind (wpAny_standAt (wpAny_bind ?_))
  show wpAny _ X.A (do let _ ← comprehension (.DictComp kx vx [⟨tg, it, ifs, 0⟩] scope pos) scope X.env (firstIterPos [⟨tg, it, ifs, 0⟩] pos) newDict false (eval it X.env) (some (assign (.Name y py) X.env))) _ _ s
  have h1 : tDc wi g tt tk tv (own.map (·.2)) σ H (fun x H1 => gName i x σ H1 D.nx) := h0
  refine wpAny_bind (thn (dc_core (Qf := fun _ s' => SP X pins D .next s') hc hN I hi ok hg ht hk he hs h1 fun M C s' m H' I' q hn f => ?_) fun _ s' hq => wpAny_pure (wpAny_pure hq))
  show wpAny _ _ (assign (.Name y py) X.env (.ref M)) _ _ _
  refine wpAny_assign_Name (store_ok2 (v := V.ref M) I' hN hy (.inl hyl) rfl (fun s2 I2 ⟨a, sb, ha⟩ => ?_) (.inr hyl))
  obtain ⟨e0, e1, e2, e3, e4, e5⟩ := f
  have hCa : C ≠ a := ha.elim (fun z => by rw [z]; exact e1) fun z e => e4 y a z e.symm
  exact ⟨m, hn.sameBut sb hCa, fun h3 sb3 => ⟨_, H', I2.turned (t' := s2.toks) (fun b o hb e => (sb3.2 b hb).trans e) e0 e1 e3 e4 e5, q⟩⟩
theorem sw_dict {kx vx : Expr} {gs : List Comprehension} {scope : Scope} {pos py : Pos} {y : Str} {l : Nat} {env : Env} (hf : env.scope.kind = .function) (hy : env.scope.names.lookup y = some .local) (hl : (py.line == pos.line) = true)
    (ha : (scope.names.any fun (n, k) => n == y && (k == .local || k == .cell)) = false) : swapsWith (.DictComp kx vx gs scope pos) (some (.Name y py)) l env = pure true := by
  have k1 : env.kindOf y = some .local := hy
  have k2 : env.blockKind = .function := by unfold Env.blockKind; rw [hf]; rfl
  unfold swapsWith
  simp only [k1, k2, ha, Expr.pos, hl]
  rfl
end
end DCS

namespace K27
open PySem L2 SI CM BK OWN MIR StX TX TL
section
variable {w : World} {K : PySem.W.Frag} {mg : Str → Option Value} {base : Heap} (T : Txt w K mg)

theorem ints_at' {ds : List Int} {i : Nat} {x : V} (h : (ds.map V.int)[i]? = some x) : ∃ d, ds[i]? = some d ∧ x = V.int d := by
  rw [List.getElem?_map] at h
  cases q : ds[i]? with
  | none => rw [q] at h; cases h
  | some d => rw [q] at h; exact ⟨d, rfl, (Option.some.inj h).symm⟩
def FellAt (CS CI : Addr) (U : List Int) (N : List Str) (H : Hp) (q : Addr) (σ : MIR.S) (L : List Int) : Prop := ∃ a f, H q = some (.tup [.ref a, .ref f]) ∧ StAt CS CI U N H a σ ∧ H f = some (.tup (L.map V.int))
def spWithout (CS CI : Addr) : Sp := fun vs H Q _ => ∃ (p : Addr) (s : Int) (U : List Int) (N : List Str) (σ : MIR.S), vs = [.ref p, .int s] ∧ StAt CS CI U N H p σ ∧ s ∈ U ∧ U.length ≤ 400 ∧ N.length ≤ 400 ∧
  ∀ (H' : Hp) (q : Addr), Same H H' → FellAt CS CI U N H' q (fallS σ (fal σ s)) (fal σ s) → ((∀ t ∈ fal σ s, t ∈ U) ∧ IsF σ s (fal σ s)) → Q (.ref q) H'
theorem ok_without : FnOk PP w K mg base CX0 5 T.f_without T.d_without ["state", "stamp"] (spWithout T.c_State T.c_Item) := by
  refine T.F_without.ok sc_without (fun vs H Q E h => ?_) (fun cdv A outer s H vs Q E hr h => ?_)
  · obtain ⟨p, s, U, N, σ, rfl, _⟩ := h
    rfl
  · obtain ⟨p, s, U, N, σ, rfl, st, hs, hU, hN, kk⟩ := h
    refine ⟨_, pss_cons (ps_set (i := 2) sc_without.nd rfl (.inr rfl) (pe_call (ok_falling T) (hr.mono (by decide)) (by rfl) T.g_falling T.F_falling.kp (b_falling T) .nil pass0 (pa_cons (pv 0) (pa_cons (pv 1) pa_nil))))
 (pss_cons (ps_set (i := 3) sc_without.nd rfl (.inl rfl) (pe_callTy call_dictD (by rfl) T.n_dict (by decide +kernel) (pa_cons (pe_fld (pv 0) rfl) pa_nil)))
 (C8.pss_cut (ps_for PassesOwn.never rfl (pi_tup (pv 2)) (pg_name (i := 4) sc_without.nd rfl (.inl rfl))
 (pss_one (ps_dput (hu_of hr) (pv 3) (pv 4) pe_str rfl)))
 (C8.pss_cut (ps_lock (DCS.ps_setDc (i := 7) (own := [("name", 5), ("item", 6)]) (g := (gTup K 2 (gCons (gName 5) (gCons (gName 6) gNil)))) (tt := tYes) rfl sc_without.nd rfl rfl (DCS.sw_dict rfl rfl rfl (by decide +kernel)) (pi_items (pe_fld (pv 0) rfl)) (blkOk_by (N := ["state", "stamp", "fallen", "over", "each", "name", "item", "store"]) (sc := defScope s_without) (by decide +kernel)) (fun _ _ _ _ _ => pg_tup rfl (pgs_cons (pg_name (i := 5) sc_without.nd rfl (.inl rfl)) (pgs_cons (pg_name (i := 6) sc_without.nd rfl (.inl rfl)) pgs_nil))) (fun _ _ _ _ _ => pts_nil) (fun _ _ _ _ _ => (pv 5)) (fun _ _ _ _ _ => (pe_call (ok_released T) (hr.mono (by decide)) (by rfl) T.g_released T.F_released.kp (b_released T) .nil pass0 (pa_cons (pv 6) (pa_cons (pv 2) pa_nil))))))
 (pss_one (ps_ret (pe_tup (pa_cons (pe_make T.mk_State (ok_State_init T) (hr.mono (by decide)) (by rfl) T.g_State (b_State_init T) .nil pass0 (pa_cons (pv 7) (pa_cons (pv 3) (pa_cons (pe_fld (pv 0) rfl) pa_nil)))) (pa_cons (pv 2) pa_nil)))))))), ?_⟩
    refine ⟨_, rfl, _, rfl, p, s, U, N, σ, rfl, st, hs, hU, fun H1 f L s1 nf hF hLU hf => ?_⟩
    rw [fal_eq hF] at kk
    obtain ⟨dx, ds, dv, db, hp, n1, n2, n3, D1, D2, D3⟩ := (st.same s1).ex
    obtain ⟨sv, hsv, snd, hSt⟩ := D1.ex
    obtain ⟨ov, hov, ond, hO⟩ := D2.ex
    obtain ⟨bv, hbv, bnd, hB⟩ := D3.ex
    refine ⟨_, rfl, p, T.c_State, dx, _, _, rfl, hp, T.cl_State, T.na_State_over, rfl, dv, ov, rfl, .inl hov, fun B nB => ?_⟩
    have s2 := same_new (o := .dK ov) (Same.refl H1) nB
    have hBo : (upd H1 B (.dK ov)) B = some (.dK ov) := upd_same
    have fB : f ≠ B := ne_of_none hf nB
    generalize upd H1 B (.dK ov) = H2 at s2 hBo
    have hf2 := s2 _ _ hf
    refine ⟨fun τ H' => ∃ (v4 : Option V) (ov' : List (Key × V)), τ = [some (.ref p), some (.int s), some (.ref f), some (.ref B), v4, none, none, none] ∧ H' B = some (.dK ov') ∧ (∀ b o, b ≠ B → H2 b = some o → H' b = some o) ∧ (ov'.map (·.1)).Nodup ∧ ∀ k, POver U (fallS σ L) k (valV ov' k), ?_, ?_⟩
    · refine ⟨_, rfl, f, rfl, ⟨_, SqT.of hf2⟩, for_tup (xs := L.map V.int) (fun i τ H' => ∃ (v4 : Option V) (ov' : List (Key × V)), τ = [some (.ref p), some (.int s), some (.ref f), some (.ref B), v4, none, none, none] ∧ H' B = some (.dK ov') ∧ (∀ b o, b ≠ B → H2 b = some o → H' b = some o) ∧ (ov'.map (·.1)).Nodup ∧ ∀ k, POver U ⟨σ.it, fun t => if t ∈ L.take i then some false else σ.ov t, σ.bd⟩ k (valV ov' k))
        ⟨none, ov, rfl, hBo, fun _ _ _ z => z, ond, over_congr hO fun x => (if_neg (fun z => by cases z) : (if x ∈ L.take 0 then some false else σ.ov x) = σ.ov x)⟩ ?_ ?_ ?_⟩
      · rintro i τ H' _ ⟨v4, ov', _, _, b2, _⟩
        exact SqT.of (b2 _ _ fB hf2)
      · rintro i x τ H' hx ⟨v4, ov', rfl, hB', b2, nd', hO'⟩
        obtain ⟨t, ht, rfl⟩ := ints_at' hx
        have tU := hLU t (List.mem_of_getElem? ht)
        have et : L.take (i + 1) = L.take i ++ [t] := by rw [List.take_add_one, ht]; rfl
        have pu := over_put (σ' := ⟨σ.it, fun x => if x ∈ L.take (i + 1) then some false else σ.ov x, σ.bd⟩) (b := false) nd' hO' tU (by show (if t ∈ L.take (i + 1) then some false else σ.ov t) = some false; rw [et]; exact if_pos (List.mem_append.mpr (.inr (List.mem_singleton.mpr rfl)))) fun y ny => by
          show (if y ∈ L.take (i + 1) then some false else σ.ov y) = if y ∈ L.take i then some false else σ.ov y
          have : (y ∈ L.take (i + 1)) ↔ y ∈ L.take i := by rw [et]; exact ⟨fun z => (List.mem_append.mp z).elim id fun q => absurd (List.mem_singleton.mp q) ny, fun z => List.mem_append.mpr (.inl z)⟩
          by_cases q : y ∈ L.take i
          · rw [if_pos q, if_pos (this.mpr q)]
          · rw [if_neg q, if_neg fun z => q (this.mp z)]
        refine ⟨_, rfl, _, rfl, B, _, rfl, DPut.k (k := Sum.inl t) hB' (small1000 (by have := len_over nd' hO'; omega)), ⟨_, _, rfl, upd_same, fun b o nb z => by rw [upd_ne nb]; exact b2 b o nb z, pu.1, pu.2⟩⟩
      · rintro τ H' ⟨v4, ov', rfl, hB', b2, nd', hO'⟩
        rw [List.length_map, List.take_length] at hO'
        exact ⟨v4, ov', rfl, hB', b2, nd', hO'⟩
    rintro τ H3 ⟨v4, ov', rfl, hB3, b3, ond', hO3⟩
    have s3 : Same H1 H3 := fun b o z => b3 b o (ne_of_none z nB) (s2 b o z)
    have hsv3 := s3 _ _ hsv
    have hp3 := s3 _ _ hp
    have hf3 := s3 _ _ hf
    have hbv3 := s3 _ _ hbv
    have Bds : B ≠ ds := fun z => by rw [z, hsv] at nB; cases nB
    have Bdb : B ≠ db := fun z => by rw [z, hbv] at nB; cases nB
    have pds : p ≠ ds := fun z => by rw [z, hsv] at hp; cases hp
    have fds : f ≠ ds := fun z => by rw [z, hsv] at hf; cases hf
    refine ⟨fun τ H' => ∃ (D : Addr) (nkv : List (Key × V)), τ = [some (.ref p), some (.int s), some (.ref f), some (.ref B), v4, none, none, some (.ref D)] ∧ H' D = some (.dK nkv) ∧ Same H3 H' ∧ H3 D = none ∧ (nkv.map (·.1)).Nodup ∧ ∀ k, PStore T.c_Item U N H' (fallS σ L) k (valV nkv k), ?_, ?_⟩
    · refine ⟨ds, .dK sv, hsv3, trivial, fun od => ?_⟩
      have hpL : (upd H3 ds (.frz od (.dK sv))) p = _ := (upd_ne pds).trans hp3
      refine ⟨_, rfl, p, T.c_State, dx, _, _, rfl, hpL, T.cl_State, T.na_State_store, rfl, ds, od, sv, rfl, upd_same, fun D nD => ?_⟩
      have l0 : LockS ds od (.dK sv) H3 (upd H3 ds (.frz od (.dK sv))) := LockS.start
      have nD3 : H3 D = none := l0.free nD hsv3
      have Dds : D ≠ ds := fun z => by rw [z, hsv3] at nD3; cases nD3
      have t3 : ∀ {H'}, LockS ds od (.dK sv) H3 H' → SameT H1 H' := fun {H'} l b o st z => l.but b o (fun q => by rw [q, hsv] at z; cases z; exact st) (s3 b o z)
      refine dc_it walk_items (fun i H' => ∃ nkv : List (Key × V), H' D = some (.dK nkv) ∧ LockS ds od (.dK sv) H3 H' ∧ Made sv nkv i (RSt T.c_Item U N H' fun n => relI L (σ.it n)))
        ⟨[], upd_same, l0.new nD, Made.nil⟩ (fun i H' _ ⟨_, _, l, _⟩ => l.at_) ?_ ?_
      · rintro i x H4 H5 hi ⟨nkv, hD, l4, md⟩ ⟨T', x1, x2, rfl, nT, rfl, e1, e2⟩
        have e1 : sv[i]?.map (fun kv => kV kv.1) = some x1 := e1
        have e2 : sv[i]?.map Prod.snd = some x2 := e2
        cases hq : sv[i]? with
        | none => rw [hq] at e1; cases e1
        | some kv =>
        obtain ⟨kk', v⟩ := kv
        rw [hq] at e1 e2
        cases e1
        cases e2
        have hb := hSt kk'
        rw [val_at snd hq] at hb
        cases kk' with
        | inl _ => cases hb
        | inr n =>
        obtain ⟨q, rfl, nN, hI, wf⟩ := hb
        have l5 := l4.new (o := .tup [kV (Sum.inr n), .ref q]) nT
        have hD5 := kp (o' := .tup [kV (Sum.inr n), .ref q]) nT hD
        have t45 : SameT H4 (upd H4 T' (.tup [kV (Sum.inr n), .ref q])) := SameT.new nT
        have hT5 : (upd H4 T' (.tup [kV (Sum.inr n), .ref q])) T' = some (.tup [kV (Sum.inr n), .ref q]) := upd_same
        generalize upd H4 T' (.tup [kV (Sum.inr n), .ref q]) = H5 at l5 hD5 hT5 t45
        refine ⟨T', _, rfl, SqT.of hT5, rfl, _, _, rfl, _, _, rfl, rfl, rfl, ?_⟩
        refine ⟨_, rfl, _, rfl, _, rfl, q, f, σ.it n, L, rfl, hI.sameT (t3 l5), l5.but _ _ fds hf3, fun H6 q' sm hI6 => ?_⟩
        have hD6 := sm _ _ hD5
        refine ⟨_, Sum.inr n, rfl, hD6, small1000 (by have := md.len; have := len_store snd hSt; omega), putK nkv (Sum.inr n) (.ref q'), upd_same, (l5.same sm).put nD3 Dds, ?_⟩
        have t6 : SameT H6 (upd H6 D (.dK (putK nkv (Sum.inr n) (.ref q')))) := SameT.chg hD6 (fun z => z)
        exact ((md.mono (RSt.sameT ((t45.trans (SameT.of sm))))).step snd hq ⟨n, q', rfl, rfl, nN, hI6, wf.rel⟩).mono (RSt.sameT t6)
      · rintro H4 ⟨nkv, hD, l4, md⟩
        refine ⟨l4.at_, ?_⟩
        have tu : SameT H4 (upd H4 ds (.dK sv)) := SameT.chg l4.at_ (fun z => z)
        have sm := store_map (g := relI L) (σ' := fallS σ L) relI0 snd hSt (md.mono (RSt.sameT tu)) (fun _ => rfl)
        exact ⟨D, nkv, rfl, by rw [upd_ne Dds]; exact hD, l4.unlock hsv3, nD3, sm.1, sm.2⟩
    rintro τ H4 ⟨D, nkv, rfl, hD4, s4, nD, nnd, hN4⟩
    have two : 2 ≤ sizeLine := by decide
    refine ⟨_, rfl, _, rfl, _, rfl, p, T.c_State, dx, _, _, rfl, s4 _ _ hp3, T.cl_State, T.na_State_bonds, rfl, fun x dx' nx ndx ne => mk_state nx ndx fun H5 s5 hx => ⟨rfl, _, rfl, two, fun t nt => ?_⟩⟩
    have s6 := same_new (o := .tup [.ref x, .ref f]) s5 nt
    refine kk _ t (((s1.trans s3).trans s4).trans s6) ⟨x, f, upd_same, ⟨dx', D, B, db, kp nt hx, ?_, ?_, Bdb, ⟨nkv, s6 _ _ hD4, nnd, store_congr hN4 (SameT.of s6) fun _ => rfl⟩, ⟨ov', s6 _ _ (s4 _ _ hB3), ond', hO3⟩, ⟨bv, s6 _ _ (s4 _ _ hbv3), bnd, bond_congr hB ((s3.trans s4).trans s6) fun _ => rfl⟩⟩, s6 _ _ (s4 _ _ hf3)⟩ ⟨hLU, hF⟩
    · exact fun z => by rw [z, hB3] at nD; cases nD
    · exact fun z => by rw [z, hbv3] at nD; cases nD
end
end K27

namespace K27
open PySem L2 SI CM BK OWN
section
variable {w : World} {K : PySem.W.Frag} {mg : Str → Option Value} {base : Heap} (T : Txt w K mg)
/-- the properties -/
def spProp (C : Addr) (r : Str → Int → V) : Sp := fun vs H Q _ => ∃ b dx d f e k, vs = [.ref b] ∧ Bk C H b dx d f e k ∧ Q (r e k) H
theorem ok_ends : FnOk PP w K mg base CX0 1 T.f_Book_ends T.d_Book_ends ["self"] (spProp T.c_Book fun e _ => .str e) := by
  refine T.F_Book_ends.ok sc_Book_ends (fun vs H Q E h => ?_) (fun cdv A outer s H vs Q E hr h => ?_)
  · obtain ⟨b, dx, d, f, e, k, rfl, _⟩ := h
    rfl
  · obtain ⟨b, dx, d, f, e, k, rfl, B, q⟩ := h
    refine ⟨_, pss_one (ps_ret (pe_fld (pv 0) rfl)), ?_⟩
    exact ⟨_, rfl, b, T.c_Book, dx, _, _, rfl, B.ins, T.cl_Book, T.na_Book__ends, rfl, q⟩
theorem ok_keep : FnOk PP w K mg base CX0 1 T.f_Book_keep T.d_Book_keep ["self"] (spProp T.c_Book fun _ k => .int k) := by
  refine T.F_Book_keep.ok sc_Book_keep (fun vs H Q E h => ?_) (fun cdv A outer s H vs Q E hr h => ?_)
  · obtain ⟨b, dx, d, f, e, k, rfl, _⟩ := h
    rfl
  · obtain ⟨b, dx, d, f, e, k, rfl, B, q⟩ := h
    refine ⟨_, pss_one (ps_ret (pe_fld (pv 0) rfl)), ?_⟩
    exact ⟨_, rfl, b, T.c_Book, dx, _, _, rfl, B.ins, T.cl_Book, T.na_Book__keep, rfl, q⟩
end
end K27

namespace K27
open PySem L2 SI CM BK OWN MIR StX TX TL
section
variable {w : World} {K : PySem.W.Frag} {mg : Str → Option Value} {base : Heap} (T : Txt w K mg)
def spAborted (CS CI : Addr) : Sp := fun vs H Q _ => ∃ (p m : Addr) (s : Int) (met : List Str) (U : List Int) (N : List Str) (σ : MIR.S), vs = [.ref p, .int s, .ref m] ∧ StAt CS CI U N H p σ ∧ s ∈ U ∧ U.length ≤ 400 ∧ N.length ≤ 400 ∧ H m = some (.tup (met.map V.str)) ∧
  ∀ (H' : Hp) (q : Addr), Same H H' → PairAt CS CI U N H' q (fallS σ (fal σ s), ⟨"abort", met, .non, fal σ s⟩) → ((∀ t ∈ fal σ s, t ∈ U) ∧ IsF σ s (fal σ s)) → Q (.ref q) H'
theorem ok_aborted : FnOk PP w K mg base CX0 6 T.f_aborted T.d_aborted ["state", "stamp", "met"] (spAborted T.c_State T.c_Item) := by
  refine T.F_aborted.ok sc_aborted (fun vs H Q E h => ?_) (fun cdv A outer s H vs Q E hr h => ?_)
  · obtain ⟨p, m, s, met, U, N, σ, rfl, _⟩ := h
    rfl
  · obtain ⟨p, m, s, met, U, N, σ, rfl, st, hs, hU, hN, hm, kk⟩ := h
    refine ⟨_, pss_cons (ps_asg (pe_call (ok_without T) (hr.mono (by decide)) (by rfl) T.g_without T.F_without.kp (b_without T) .nil pass0 (pa_cons (pv 0) (pa_cons (pv 1) pa_nil))) (pg_tup rfl (pgs_cons (pg_name (i := 3) sc_aborted.nd rfl (.inl rfl)) (pgs_cons (pg_name (i := 4) sc_aborted.nd rfl (.inl rfl)) pgs_nil))))
 (pss_one (ps_ret (pe_tup (pa_cons (pv 3) (pa_cons (pe_tup (pa_cons pe_str (pa_cons (pv 2) (pa_cons pe_non (pa_cons (pv 4) pa_nil))))) pa_nil))))), ?_⟩
    have two : 2 ≤ sizeLine := by decide
    have four : 4 ≤ sizeLine := by decide
    refine ⟨_, rfl, _, rfl, p, s, U, N, σ, rfl, st, hs, hU, hN, fun H1 q s1 ⟨a, f, hq, hst, hf⟩ hLU => ?_⟩
    refine ⟨q, _, rfl, SqT.of hq, rfl, _, _, rfl, _, _, rfl, rfl, ?_⟩
    refine ⟨_, rfl, _, rfl, _, rfl, four, fun t nt => ⟨two, fun u nu => ?_⟩⟩
    have s2 := same_new (o := .tup [.str "abort", .ref m, .non, .ref f]) (Same.refl H1) nt
    have s3 := same_new (o := .tup [.ref a, .ref t]) s2 nu
    exact kk _ u (s1.trans s3) ⟨a, t, upd_same, hst.same s3, ⟨m, .non, f, kp nu upd_same, s3 _ _ (s1 _ _ hm), rfl, s3 _ _ hf⟩⟩ hLU
theorem filter_asc {l : List Int} {P : Int → Bool} {M : List Int} (nd : l.Nodup) (p : M.Perm (l.filter P)) (s : M.Pairwise (· ≤ ·)) : asc (l.filter P) = M := asc_eq (perm_asc p s (nd.sublist List.filter_sublist))
theorem bd_of {H : Hp} {U : List Int} {σ : MIR.S} {kvs : List (Key × V)} (hB : ∀ k, PBond U H σ k (valV kvs k)) (t : Int) : (σ.bd t).Nodup ∧ ∀ h ∈ σ.bd t, h ∈ U := by
  have z := hB (.inl t)
  cases e : valV kvs (Sum.inl t) with
  | none => rw [e] at z; rw [show σ.bd t = [] from z]; exact ⟨List.nodup_nil, fun h hh => by cases hh⟩
  | some v => rw [e] at z; obtain ⟨q, _, _, _, h1, h2⟩ := z; exact ⟨h1, h2⟩
noncomputable def comM (σ : MIR.S) (s : Int) (k : Nat) : MIR.S × Out := if waitsOf σ s ≠ [] then (σ, ⟨"wait", [], .tup (asc (waitsOf σ s)), []⟩) else (commS σ s k, ⟨"commit", [], .non, []⟩)
def spCommitted (CB CS CI : Addr) : Sp := fun vs H Q _ => ∃ (b dxb d : Addr) (g : Str → Str) (e : Str) (k : Nat) (p : Addr) (s : Int) (U : List Int) (N : List Str) (σ : MIR.S), vs = [.ref b, .ref p, .int s] ∧ Bk CB H b dxb d g e (k : Int) ∧ 1 ≤ k ∧ k ≤ 20 ∧ StAt CS CI U N H p σ ∧ s ∈ U ∧ U.length ≤ 400 ∧ N.length ≤ 400 ∧
  ∀ (H' : Hp) (q : Addr), Same H H' → PairAt CS CI U N H' q (comM σ s k) → Q (.ref q) H'
theorem ok_committed : FnOk PP w K mg base CX0 5 T.f_committed T.d_committed ["book", "state", "stamp"] (spCommitted T.c_Book T.c_State T.c_Item) := by
  refine T.F_committed.ok sc_committed (fun vs H Q E h => ?_) (fun cdv A outer s H vs Q E hr h => ?_)
  · obtain ⟨b, dxb, d, g, e, k, p, s, U, N, σ, rfl, _⟩ := h
    rfl
  · obtain ⟨b, dxb, d, g, e, k, p, s, U, N, σ, rfl, B, k1, k20, st, hs, hU, hN, kk⟩ := h
    refine ⟨_, C8.pss_cut (ps_set (i := 3) sc_committed.nd rfl (.inl rfl) (pe_dget2 (hu_of hr) (pe_fld (pv 1) rfl) (pv 2) (pe_tup pa_nil) (by constructor <;> rfl)))
 (pss_cons (ps_set (i := 5) sc_committed.nd rfl (.inl rfl) (pe_call (ok_ascending T) (hr.mono (by decide)) (by rfl) T.g_ascending T.F_ascending.kp (b_ascending T) .nil pass0 (pa_cons (pe_lc (own := [("holder", 4)]) (g := gName 4) (tt := tB (tDNotIn (tVar 4) (tFld K (tVar 1) "over"))) (by rfl) sc_committed.nd (pi_tup (pv 3)) (blkOk_by (N := ["book", "state", "stamp", "bound", "holder", "holders", "over", "name", "item", "store"]) (sc := defScope s_committed) (by decide +kernel)) (fun _ _ _ _ _ => pg_name (i := 4) sc_committed.nd rfl (Or.inl rfl)) (fun _ _ _ _ _ => pts_one (pt_cmp (pc_dnotin (hu_of hr) (pv 4) (pe_fld (pv 1) rfl)))) (fun _ _ _ _ _ => (pv 4))) pa_nil)))
 (pss_cons (ps_if (pt_truth (pv 5) (by intro _; rfl))
 (pss_one (ps_ret (pe_tup (pa_cons (pv 1) (pa_cons (pe_tup (pa_cons pe_str (pa_cons (pe_tup pa_nil) (pa_cons (pv 5) (pa_cons (pe_tup pa_nil) pa_nil))))) pa_nil)))))
 pss_nil)
 (pss_cons (ps_set (i := 6) sc_committed.nd rfl (.inl rfl) (pe_callTy call_dictD (by rfl) T.n_dict (by decide +kernel) (pa_cons (pe_fld (pv 1) rfl) pa_nil)))
 (pss_cons (ps_dput (hu_of hr) (pv 6) (pv 2) pe_str rfl)
 (C8.pss_cut (ps_lock (DCS.ps_setDc (i := 9) (own := [("name", 7), ("item", 8)]) (g := (gTup K 2 (gCons (gName 7) (gCons (gName 8) gNil)))) (tt := tYes) rfl sc_committed.nd rfl rfl (DCS.sw_dict rfl rfl rfl (by decide +kernel)) (pi_items (pe_fld (pv 1) rfl)) (blkOk_by (N := ["book", "state", "stamp", "bound", "holder", "holders", "over", "name", "item", "store"]) (sc := defScope s_committed) (by decide +kernel)) (fun _ _ _ _ _ => pg_tup rfl (pgs_cons (pg_name (i := 7) sc_committed.nd rfl (.inl rfl)) (pgs_cons (pg_name (i := 8) sc_committed.nd rfl (.inl rfl)) pgs_nil))) (fun _ _ _ _ _ => pts_nil) (fun _ _ _ _ _ => (pv 7)) (fun _ _ _ _ _ => (pe_call (ok_settled T) (hr.mono (by decide)) (by rfl) T.g_settled T.F_settled.kp (b_settled T) .nil pass0 (pa_cons (pv 8) (pa_cons (pv 2) (pa_cons (pe_prop (pv 0) T.cl_Book T.p_Book_keep (ok_keep T) (hr.mono (by decide)) (b_Book_keep T) .nil pass0 rfl) pa_nil)))))))
 (pss_one (ps_ret (pe_tup (pa_cons (pe_make T.mk_State (ok_State_init T) (hr.mono (by decide)) (by rfl) T.g_State (b_State_init T) .nil pass0 (pa_cons (pv 9) (pa_cons (pv 6) (pa_cons (pe_fld (pv 1) rfl) pa_nil)))) (pa_cons (pe_tup (pa_cons pe_str (pa_cons (pe_tup pa_nil) (pa_cons pe_non (pa_cons (pe_tup pa_nil) pa_nil))))) pa_nil)))))))))), ?_⟩
    obtain ⟨dx, ds, dv, db, hp, n1, n2, n3, D1, D2, D3⟩ := st.ex
    obtain ⟨sv, hsv, snd, hSt⟩ := D1.ex
    obtain ⟨ov, hov, ond, hO⟩ := D2.ex
    obtain ⟨bv, hbv, bnd, hB⟩ := D3.ex
    obtain ⟨bdnd, bdU⟩ := bd_of hB s
    have zero : 0 ≤ sizeLine := by decide
    have two : 2 ≤ sizeLine := by decide
    have four : 4 ≤ sizeLine := by decide
    refine ⟨fun τ H' => ∃ q, τ = [some (.ref b), some (.ref p), some (.int s), some (.ref q), none, none, none, none, none, none] ∧ H' q = some (.tup ((σ.bd s).map V.int)) ∧ Same H H', ?_, ?_⟩
    · refine ⟨_, rfl, p, T.c_State, dx, _, _, rfl, hp, T.cl_State, T.na_State_bonds, rfl, db, rfl, .inl ⟨bv, .inl hbv⟩, _, rfl, zero, fun t nt => ?_⟩
      have gg := DGet.k (k := Sum.inl s) (kp (o' := .tup []) nt hbv)
      have z := hB (.inl s)
      refine ⟨_, gg, ?_⟩
      cases e0 : valV bv (Sum.inl s) with
      | none =>
        rw [e0] at z
        exact ⟨t, rfl, by rw [show σ.bd s = [] from z]; exact upd_same, same_new (Same.refl H) nt⟩
      | some v =>
        rw [e0] at z
        obtain ⟨q, rfl, _, hq, _⟩ := z
        exact ⟨q, rfl, kp nt hq, same_new (Same.refl H) nt⟩
    rintro τ H1 ⟨q, rfl, hq, s1⟩
    have hp1 := s1 _ _ hp
    have hov1 := s1 _ _ hov
    refine ⟨_, rfl, q, rfl, ⟨_, SqT.of hq⟩, fun D nD => lc_tup (xs := (σ.bd s).map V.int) (fun i H' => H' D = some (.lst ((((σ.bd s).take i).filter fun t => (σ.ov t).isNone).map V.int)) ∧ Same H1 H')
      ⟨upd_same, same_new (Same.refl H1) nD⟩ (fun i H' _ h => SqT.of (h.2 _ _ hq)) ?_ ?_⟩
    · rintro i x H2 hx ⟨hD, s2⟩
      obtain ⟨t, ht, rfl⟩ := ints_at' hx
      have gg := DGet.k (k := Sum.inl t) (s2 _ _ hov1)
      have z := hO (.inl t)
      have et : (σ.bd s).take (i + 1) = (σ.bd s).take i ++ [t] := by rw [List.take_add_one, ht]; rfl
      refine ⟨rfl, _, rfl, _, rfl, p, T.c_State, dx, _, _, rfl, s2 _ _ hp1, T.cl_State, T.na_State_over, rfl, dv, _, rfl, gg, _, rfl, ?_⟩
      cases e0 : valV ov (Sum.inl t) with
      | none =>
        rw [e0] at z
        refine iteT ⟨_, rfl, _, hD, small1000 ?_, ?_, fun b o z => ?_⟩
        · rw [List.length_map]
          have h1 := List.length_filter_le (fun t => (σ.ov t).isNone) ((σ.bd s).take i)
          have h2 := List.length_take_le i (σ.bd s)
          have h3 := nd_le bdnd bdU
          have h4 : ((σ.bd s).take i).length ≤ (σ.bd s).length := by rw [List.length_take]; omega
          omega
        · rw [upd_same, et, List.filter_append]
          have : ([t].filter fun t => (σ.ov t).isNone) = [t] := by simp [List.filter, show σ.ov t = none from z]
          rw [this, List.map_append]; rfl
        · rw [upd_ne (ne_of_none z nD)]; exact s2 b o z
      | some v =>
        rw [e0] at z
        obtain ⟨b', _, _, eb⟩ := z
        refine iteF ⟨?_, s2⟩
        rw [et, List.filter_append]
        have : ([t].filter fun t => (σ.ov t).isNone) = [] := by simp [List.filter, eb]
        rw [this, List.append_nil]; exact hD
    rintro H2 ⟨hD, s2⟩
    rw [List.length_map, List.take_length] at hD
    have hwl : (waitsOf σ s).length ≤ 400 := by
      have h1 := List.length_filter_le (fun t => (σ.ov t).isNone) (σ.bd s)
      have h3 := nd_le bdnd bdU
      show ((σ.bd s).filter _).length ≤ 400
      omega
    refine ⟨D, waitsOf σ s, rfl, SqL.of hD, by omega, fun H3 h M s3 nh pm ps hh => ?_⟩
    have eM : asc (waitsOf σ s) = M := filter_asc bdnd pm ps
    have s13 := (s1.trans s2).trans s3
    have hp3 := s13 _ _ hp
    refine ⟨_, rfl, !(M.map V.int).isEmpty, .inr (.inl ⟨_, SqT.of hh, rfl⟩), ?_⟩
    by_cases hw : waitsOf σ s = []
    · have hM : M = [] := by rw [hw] at pm; exact pm.eq_nil
      have em : comM σ s k = (commS σ s k, ⟨"commit", [], .non, []⟩) := if_neg fun z => z hw
      rw [em] at kk
      rw [hM]
      refine iteF ?_
      refine ⟨_, rfl, p, T.c_State, dx, _, _, rfl, hp3, T.cl_State, T.na_State_over, rfl, dv, ov, rfl, .inl (s13 _ _ hov), fun O nO => ?_⟩
      have s4 := same_new (o := .dK ov) s13 nO
      have pu : ((putK ov (Sum.inl s) (.str "committed")).map (·.1)).Nodup ∧ ∀ x, POver U (commS σ s k) x (valV (putK ov (Sum.inl s) (.str "committed")) x) := over_put (σ' := commS σ s k) (b := true) ond hO hs (by exact if_pos rfl) fun x nx => if_neg nx
      have hsv4 := s4 _ _ hsv
      refine ⟨_, rfl, _, rfl, O, _, rfl, DPut.k (k := Sum.inl s) upd_same (small1000 (by have := len_over ond hO; omega)), ?_⟩
      have hO5 : (upd (upd H3 O (.dK ov)) O (.dK (putK ov (Sum.inl s) (.str "committed")))) O = some (.dK (putK ov (Sum.inl s) (.str "committed"))) := upd_same
      have s5 : Same H (upd (upd H3 O (.dK ov)) O (.dK (putK ov (Sum.inl s) (.str "committed")))) := fun x o z => by
        have : x ≠ O := ne_of_none (s13 _ _ z) nO
        rw [upd_ne this]; exact s4 x o z
      have fO : H O = none := s13.free nO
      generalize (upd (upd H3 O (.dK ov)) O (.dK (putK ov (Sum.inl s) (.str "committed")))) = H5 at hO5 s5 ⊢
      have dds : d ≠ ds := fun z => by
        have e1 := B.tbl
        rw [z, hsv] at e1
        have e2 : sv = tabS ENT g := by cases e1; rfl
        have e3 := hSt (Sum.inr "read late")
        rw [e2, val_in (g := V.str) (by decide)] at e3
        obtain ⟨_, e4, _⟩ := e3
        cases e4
      have bds : b ≠ ds := fun z => by have := B.ins; rw [z, hsv] at this; cases this
      have hsv5 := s5 _ _ hsv
      have hp5 := s5 _ _ hp
      have hbv5 := s5 _ _ hbv
      have Ods : O ≠ ds := fun z => by rw [z, hsv] at fO; cases fO
      have Odb : O ≠ db := fun z => by rw [z, hbv] at fO; cases fO
      have pds : p ≠ ds := fun z => by rw [z, hsv] at hp; cases hp
      refine ⟨fun τ H' => ∃ (D : Addr) (nkv : List (Key × V)), τ = [some (.ref b), some (.ref p), some (.int s), some (.ref q), none, some (.ref h), some (.ref O), none, none, some (.ref D)] ∧ H' D = some (.dK nkv) ∧ Same H5 H' ∧ H5 D = none ∧ (nkv.map (·.1)).Nodup ∧ ∀ x, PStore T.c_Item U N H' (commS σ s k) x (valV nkv x), ?_, ?_⟩
      · refine ⟨ds, .dK sv, hsv5, trivial, fun od => ?_⟩
        have hpL : (upd H5 ds (.frz od (.dK sv))) p = _ := (upd_ne pds).trans hp5
        refine ⟨_, rfl, p, T.c_State, dx, _, _, rfl, hpL, T.cl_State, T.na_State_store, rfl, ds, od, sv, rfl, upd_same, fun D nD => ?_⟩
        have l0 : LockS ds od (.dK sv) H5 (upd H5 ds (.frz od (.dK sv))) := LockS.start
        have nD5 : H5 D = none := l0.free nD hsv5
        have Dds : D ≠ ds := fun z => by rw [z, hsv5] at nD5; cases nD5
        have t3 : ∀ {H'}, LockS ds od (.dK sv) H5 H' → SameT H H' := fun {H'} l x o st z => l.but x o (fun q => by rw [q, hsv] at z; cases z; exact st) (s5 x o z)
        refine dc_it walk_items (fun i H' => ∃ nkv : List (Key × V), H' D = some (.dK nkv) ∧ LockS ds od (.dK sv) H5 H' ∧ Made sv nkv i (RSt T.c_Item U N H' fun n => setI s k (σ.it n)))
          ⟨[], upd_same, l0.new nD, Made.nil⟩ (fun i H' _ ⟨_, _, l, _⟩ => l.at_) ?_ ?_
        · rintro i x H6 H7 hi ⟨nkv, hD, l4, md⟩ ⟨T', x1, x2, rfl, nT, rfl, e1, e2⟩
          have e1 : sv[i]?.map (fun kv => kV kv.1) = some x1 := e1
          have e2 : sv[i]?.map Prod.snd = some x2 := e2
          cases hq : sv[i]? with
          | none => rw [hq] at e1; cases e1
          | some kv =>
          obtain ⟨kk', v⟩ := kv
          rw [hq] at e1 e2
          cases e1
          cases e2
          have hb := hSt kk'
          rw [val_at snd hq] at hb
          cases kk' with
          | inl _ => cases hb
          | inr n =>
          obtain ⟨q', rfl, nN, hI, wf⟩ := hb
          have l5 := l4.new (o := .tup [kV (Sum.inr n), .ref q']) nT
          have hD5 := kp (o' := .tup [kV (Sum.inr n), .ref q']) nT hD
          have t45 : SameT H6 (upd H6 T' (.tup [kV (Sum.inr n), .ref q'])) := SameT.new nT
          have hT5 : (upd H6 T' (.tup [kV (Sum.inr n), .ref q'])) T' = some (.tup [kV (Sum.inr n), .ref q']) := upd_same
          generalize upd H6 T' (.tup [kV (Sum.inr n), .ref q']) = H7 at l5 hD5 hT5 t45
          have B7 : Bk T.c_Book H7 b dxb d g e (k : Int) := ⟨l5.but _ _ bds (s5 _ _ B.ins), l5.but _ _ dds (s5 _ _ B.tbl)⟩
          refine ⟨T', _, rfl, SqT.of hT5, rfl, _, _, rfl, _, _, rfl, rfl, rfl, ?_⟩
          refine ⟨_, rfl, _, rfl, _, rfl, _, rfl, b, dxb, _, rfl, B7.ins, b, dxb, d, g, e, (k : Int), rfl, B7, ?_⟩
          refine ⟨q', σ.it n, s, k, rfl, hI.sameT (t3 l5), wf.le, k1, fun H8 q2 sm hI6 => ?_⟩
          have hD6 := sm _ _ hD5
          refine ⟨_, Sum.inr n, rfl, hD6, small1000 (by have := md.len; have := len_store snd hSt; omega), putK nkv (Sum.inr n) (.ref q2), upd_same, (l5.same sm).put nD5 Dds, ?_⟩
          have t6 : SameT H8 (upd H8 D (.dK (putK nkv (Sum.inr n) (.ref q2)))) := SameT.chg hD6 (fun z => z)
          exact ((md.mono (RSt.sameT ((t45.trans (SameT.of sm))))).step snd hq ⟨n, q2, rfl, rfl, nN, hI6, wf.set k1 k20⟩).mono (RSt.sameT t6)
        · rintro H6 ⟨nkv, hD, l4, md⟩
          refine ⟨l4.at_, ?_⟩
          have tu : SameT H6 (upd H6 ds (.dK sv)) := SameT.chg l4.at_ (fun z => z)
          have sm := store_map (g := setI s k) (σ' := commS σ s k) setI0 snd hSt (md.mono (RSt.sameT tu)) (fun _ => rfl)
          exact ⟨D, nkv, rfl, by rw [upd_ne Dds]; exact hD, l4.unlock hsv5, nD5, sm.1, sm.2⟩
      rintro τ H6 ⟨D, nkv, rfl, hD4, s6, nD, nnd, hN4⟩
      refine ⟨_, rfl, _, rfl, _, rfl, p, T.c_State, dx, _, _, rfl, s6 _ _ hp5, T.cl_State, T.na_State_bonds, rfl, fun x dx' nx ndx ne => mk_state nx ndx fun H7 s7 hx => ⟨rfl, zero, fun u nu => ⟨zero, fun v nv => ⟨four, fun o no => ⟨two, fun r nr => ?_⟩⟩⟩⟩⟩
      have t1 := same_new (o := .tup []) (Same.refl H7) nu
      have t2 := same_new (o := .tup []) t1 nv
      have t3 := same_new (o := .tup [.str "commit", .ref u, .non, .ref v]) t2 no
      have t4 := same_new (o := .tup [.ref x, .ref o]) t3 nr
      have s57 := (s6.trans s7).trans t4
      have s07 := s5.trans s57
      refine kk _ r s07 ⟨x, o, upd_same, ⟨dx', D, O, db, t4 _ _ hx, ?_, ?_, Odb, ⟨nkv, (s7.trans t4) _ _ hD4, nnd, store_congr hN4 (SameT.of (s7.trans t4)) fun _ => rfl⟩, ⟨_, s57 _ _ hO5, pu.1, pu.2⟩, ⟨bv, s57 _ _ hbv5, bnd, bond_congr hB s07 fun _ => rfl⟩⟩, ⟨u, .non, v, kp nr upd_same, kp nr (kp no (kp nv upd_same)), rfl, kp nr (kp no upd_same)⟩⟩
      · exact fun z => by rw [z, hO5] at nD; cases nD
      · exact fun z => by rw [z, hbv5] at nD; cases nD
    · have em : comM σ s k = (σ, ⟨"wait", [], .tup (asc (waitsOf σ s)), []⟩) := if_pos hw
      rw [em, eM] at kk
      have hM : M ≠ [] := by
        intro z; rw [z] at pm; exact hw pm.symm.eq_nil
      obtain ⟨y, ys, ey⟩ : ∃ y ys, M = y :: ys := by cases M with | nil => exact absurd rfl hM | cons y ys => exact ⟨y, ys, rfl⟩
      have eb : (!(M.map V.int).isEmpty) = true := by rw [ey]; rfl
      rw [eb]
      refine iteT ⟨_, rfl, zero, fun u nu => ⟨_, rfl, zero, fun v nv => ⟨four, fun o no => ⟨two, fun r nr => ?_⟩⟩⟩⟩
      have t1 := same_new (o := .tup []) (Same.refl H3) nu
      have t2 := same_new (o := .tup []) t1 nv
      have t3 := same_new (o := .tup [.str "wait", .ref u, .ref h, .ref v]) t2 no
      have t4 := same_new (o := .tup [.ref p, .ref o]) t3 nr
      exact kk _ r (s13.trans t4) ⟨p, o, upd_same, st.same (s13.trans t4), ⟨u, .ref h, v, kp nr upd_same, kp nr (kp no (kp nv upd_same)), ⟨h, rfl, t4 _ _ hh⟩, kp nr (kp no upd_same)⟩⟩
end
end K27

namespace K27
open PySem L2 SI CM BK OWN MIR StX TX TL
section
variable {w : World} {K : PySem.W.Frag} {mg : Str → Option Value} {base : Heap} (T : Txt w K mg)
def hVo : Option Int → V
  | none => .non
  | some h => .int h
theorem hV_o (i : MIR.It) : hV i = hVo (hOf i) := by
  unfold hV hOf
  split <;> (rename_i e; rw [e]; rfl)
def spPlaceI : Sp := fun vs H Q _ => ∃ (s x : Int) (h : Option Int), vs = [.int s, .int x, hVo h] ∧ Q (.str (placeM s x h)) H
theorem ok_place : FnOk PP w K mg base CX0 1 T.f_place T.d_place ["asker", "last", "holder"] spPlaceI := by
  refine T.F_place.ok sc_place (fun vs H Q E h => ?_) (fun cdv A outer s H vs Q E hr h => ?_)
  · obtain ⟨s, x, h, rfl, _⟩ := h
    rfl
  · obtain ⟨s, x, h, rfl, k⟩ := h
    refine ⟨_, pss_cons (ps_if (pt_cmpR op_isN (pv 2) pe_non (nomark _))
 (pss_one (ps_ret (pe_ifExp (pt_cmpR op_lt (pv 1) (pv 0) (nomark _)) pe_str pe_str)))
 pss_nil)
 (pss_cons (ps_if (pt_cmpR op_eq (pv 2) (pv 0) (nomark _))
 (pss_one (ps_ret pe_str))
 pss_nil)
 (pss_cons (ps_if (pt_cmpR op_lt (pv 0) (pv 1) (nomark _))
 (pss_one (ps_ret pe_str))
 pss_nil)
 (pss_one (ps_ret (pe_ifExp (pt_cmpR op_lt (pv 0) (pv 2) (nomark _)) pe_str pe_str))))), ?_⟩
    refine ⟨_, rfl, rfl, _, rfl, ?_⟩
    cases h with
    | none =>
      rw [show decide (hVo none = .non) = true from rfl]
      refine iteT ⟨_, rfl, _, rfl, _, _, rfl, rfl, _, rfl, ?_⟩
      refine ite2 (fun c => ?_) (fun c => ?_)
      · rw [show placeM s x none = "free" from if_pos (of_decide_eq_true c)] at k; exact k
      · rw [show placeM s x none = "late" from if_neg (of_decide_eq_false (by cases q : decide (x < s) with | true => exact absurd q c | false => rfl))] at k; exact k
    | some h =>
      rw [show decide (hVo (some h) = .non) = false from rfl]
      refine iteF ⟨_, rfl, _, rfl, rfl, _, rfl, ?_⟩
      by_cases e1 : h = s
      · rw [show decide (hVo (some h) = V.int s) = true from decide_eq_true (congrArg V.int e1)]
        rw [show placeM s x (some h) = "own" from if_pos e1] at k
        exact iteT k
      · rw [show decide (hVo (some h) = V.int s) = false from decide_eq_false (fun z => e1 (V.int.inj z))]
        refine iteF ⟨_, rfl, _, rfl, _, _, rfl, rfl, _, rfl, ?_⟩
        by_cases e2 : s < x
        · rw [decide_eq_true e2]
          rw [show placeM s x (some h) = "under" from (if_neg e1).trans (if_pos e2)] at k
          exact iteT k
        · rw [decide_eq_false e2]
          refine iteF ⟨_, rfl, _, rfl, _, _, rfl, rfl, _, rfl, ?_⟩
          by_cases e3 : s < h
          · rw [decide_eq_true e3]
            rw [show placeM s x (some h) = "below" from (if_neg e1).trans ((if_neg e2).trans (if_pos e3))] at k
            exact iteT k
          · rw [decide_eq_false e3]
            rw [show placeM s x (some h) = "above" from (if_neg e1).trans ((if_neg e2).trans (if_neg e3))] at k
            exact iteF k
def spOlder (CI : Addr) : Sp := fun vs H Q _ => ∃ (p : Addr) (i : MIR.It) (s : Int), vs = [.ref p, .int s] ∧ ItAt CI H p i ∧ i.kept.length ≤ 20 ∧ ∀ (H' : Hp) (q : Addr), Same H H' → H q = none → H' q = some (.lst ((oldM i s).map V.int)) → Q (.ref q) H'
theorem old_take {i : MIR.It} {s : Int} : oldM i s = (i.kept.filter fun p => decide (p.1 < s)).map (·.2) := rfl
theorem ok_older_values : FnOk PP w K mg base CX0 1 T.f_older_values T.d_older_values ["item", "stamp"] (spOlder T.c_Item) := by
  refine T.F_older_values.ok sc_older_values (fun vs H Q E h => ?_) (fun cdv A outer s H vs Q E hr h => ?_)
  · obtain ⟨p, i, s, rfl, _⟩ := h
    rfl
  · obtain ⟨p, i, s, rfl, hi, h20, kk⟩ := h
    refine ⟨_, pss_one (ps_ret (pe_lc (own := [("writer", 2), ("value", 3)]) (g := (gTup K 2 (gCons (gName 2) (gCons (gName 3) gNil)))) (tt := tTest (tOp (rI0 fun i j => .bl (decide (i < j))) (tVar 2) (tVar 1))) (by rfl) sc_older_values.nd (pi_tup (pe_fld (pv 0) rfl)) (blkOk_by (N := ["item", "stamp", "writer", "value"]) (sc := defScope s_older_values) (by decide +kernel)) (fun _ _ _ _ _ => pg_tup rfl (pgs_cons (pg_name (i := 2) sc_older_values.nd rfl (.inl rfl)) (pgs_cons (pg_name (i := 3) sc_older_values.nd rfl (.inl rfl)) pgs_nil))) (fun _ _ _ _ _ => pts_one (pt_cmpR op_lt (pv 2) (pv 1) (nomark _))) (fun _ _ _ _ _ => (pv 3)))), ?_⟩
    obtain ⟨dx, ka, hp, ps, hka, hps⟩ := hi
    refine ⟨_, rfl, p, T.c_Item, dx, _, _, rfl, hp, T.cl_Item, T.na_Item_kept, rfl, ka, rfl, ⟨_, SqT.of hka⟩, fun D nD => lc_tup (xs := ps.map V.ref) (fun j H' => H' D = some (.lst ((((i.kept.take j).filter fun p => decide (p.1 < s)).map (·.2)).map V.int)) ∧ Same H H')
      ⟨upd_same, same_new (Same.refl H) nD⟩ (fun j H' _ h => SqT.of (h.2 _ _ hka)) ?_ ?_⟩
    · rintro j x H1 hx ⟨hD, s1⟩
      rw [List.getElem?_map] at hx
      cases hq : ps[j]? with
      | none => rw [hq] at hx; cases hx
      | some y =>
      rw [hq] at hx
      cases hx
      obtain ⟨v, hv, hy⟩ := hps.at hq
      have et : i.kept.take (j + 1) = i.kept.take j ++ [v] := by rw [List.take_add_one, hv]; rfl
      have hl : (((i.kept.take j).filter fun p => decide (p.1 < s)).map (·.2)).length < 1000 := by
        rw [List.length_map]
        have h1 := List.length_filter_le (fun p : Int × Int => decide (p.1 < s)) (i.kept.take j)
        rw [List.length_take] at h1
        omega
      refine ⟨y, _, rfl, SqT.of (s1 _ _ hy), rfl, _, _, rfl, _, _, rfl, rfl, rfl, ?_⟩
      refine ⟨_, rfl, _, rfl, _, _, rfl, rfl, _, rfl, ?_⟩
      by_cases c : v.1 < s
      · rw [decide_eq_true c]
        refine iteT ⟨_, rfl, _, hD, small1000 (by rw [List.length_map]; exact Nat.le_of_lt hl), ?_, fun b o z => ?_⟩
        · rw [upd_same, et, List.filter_append]
          have : ([v].filter fun p : Int × Int => decide (p.1 < s)) = [v] := by simp [List.filter, c]
          rw [this, List.map_append, List.map_append]; rfl
        · rw [upd_ne (ne_of_none z nD)]; exact s1 b o z
      · rw [decide_eq_false c]
        refine iteF ⟨?_, s1⟩
        rw [et, List.filter_append]
        have : ([v].filter fun p : Int × Int => decide (p.1 < s)) = [] := by simp [List.filter, c]
        rw [this, List.append_nil]; exact hD
    · rintro H1 ⟨hD, s1⟩
      rw [List.length_map, hps.len, List.take_length] at hD
      exact kk H1 D s1 nD hD
end
end K27

/-! Bonds and items put. -/
namespace MIR
open PySem L2 CM BK
theorem F2.last {α β : Type} {R : α → β → Prop} {as : List α} {bs : List β} {d : β} (h : F2 R as bs) (n : bs ≠ []) : ∃ as' a, as = as' ++ [a] ∧ R a (bs.getLastD d) := by
  have hl : 0 < bs.length := by cases bs with | nil => exact absurd rfl n | cons _ _ => exact Nat.zero_lt_succ _
  have hl2 := h.len
  have na : as ≠ [] := by intro z; rw [z] at hl2; simp at hl2; omega
  obtain ⟨as', a, e⟩ : ∃ as' a, as = as' ++ [a] := ⟨as.dropLast, as.getLast na, (List.dropLast_concat_getLast na).symm⟩
  refine ⟨as', a, e, ?_⟩
  have ea : as[as'.length]? = some a := by rw [e]; simp
  obtain ⟨b, hb, r⟩ := h.at ea
  have : as'.length = bs.length - 1 := by rw [← hl2, e, List.length_append]; simp
  rw [this] at hb
  have e2 : bs.getLastD d = b := by
    rw [List.getLastD_eq_getLast?, List.getLast?_eq_getElem?, hb]; rfl
  rw [e2]; exact r
section
variable {H H' : Hp} {C d : Addr} {U : List Int} {N : List Str} {σ σ' : S} {kvs nkv : List (Key × V)} {t : Int} {n : Str} {q : Addr} {L : List Int} {i : It}
theorem bond_put (nd : (kvs.map (·.1)).Nodup) (hP : ∀ k, PBond U H σ k (valV kvs k)) (s : Same H H') (ht : t ∈ U) (hq : H' q = some (.tup (L.map V.int))) (hn : L.Nodup) (hU : ∀ h ∈ L, h ∈ U) (h1 : σ'.bd t = L) (h2 : ∀ x, x ≠ t → σ'.bd x = σ.bd x) :
    ((putK kvs (Sum.inl t) (.ref q)).map (·.1)).Nodup ∧ ∀ k, PBond U H' σ' k (valV (putK kvs (Sum.inl t) (.ref q)) k) := by
  refine ⟨nd_put nd, fun k => ?_⟩
  rw [valV_put]
  by_cases e : k = Sum.inl t
  · rw [if_pos e, e]
    exact ⟨q, rfl, ht, by rw [h1]; exact hq, by rw [h1]; exact hn, by rw [h1]; exact hU⟩
  · rw [if_neg e]
    have z := hP k
    cases k with
    | inr n => exact z
    | inl x =>
      have nx : x ≠ t := fun q => e (by rw [q])
      have e2 := h2 x nx
      cases e3 : valV kvs (Sum.inl x) with
      | none => rw [e3] at z; exact e2.trans z
      | some v =>
        rw [e3] at z
        obtain ⟨q', h3, h4, h5, h6, h7⟩ := z
        exact ⟨q', h3, h4, by rw [e2]; exact s _ _ h5, by rw [e2]; exact h6, by rw [e2]; exact h7⟩
theorem store_put (nd : (kvs.map (·.1)).Nodup) (hP : ∀ k, PStore C U N H σ k (valV kvs k)) (s : SameT H H') (hn : n ∈ N) (hq : ItAt C H' q i) (wf : WfI U i) (h1 : σ'.it n = i) (h2 : ∀ x, x ≠ n → σ'.it x = σ.it x) :
    ((putK kvs (Sum.inr n) (.ref q)).map (·.1)).Nodup ∧ ∀ k, PStore C U N H' σ' k (valV (putK kvs (Sum.inr n) (.ref q)) k) := by
  refine ⟨nd_put nd, fun k => ?_⟩
  rw [valV_put]
  by_cases e : k = Sum.inr n
  · rw [if_pos e, e]
    exact ⟨q, rfl, hn, by rw [h1]; exact hq, by rw [h1]; exact wf⟩
  · rw [if_neg e]
    have z := hP k
    cases k with
    | inl n => exact z
    | inr x =>
      have nx : x ≠ n := fun q => e (by rw [q])
      have e2 := h2 x nx
      cases e3 : valV kvs (Sum.inr x) with
      | none => rw [e3] at z; exact e2.trans z
      | some v =>
        rw [e3] at z
        obtain ⟨q', h3, h4, h5, h6⟩ := z
        exact ⟨q', h3, h4, by rw [e2]; exact h5.sameT s, by rw [e2]; exact h6⟩
end
end MIR

namespace K27
open PySem L2 SI CM BK OWN MIR StX TX TL
section
variable {w : World} {K : PySem.W.Frag} {mg : Str → Option Value} {base : Heap} (T : Txt w K mg)
def spValRead (CI : Addr) : Sp := fun vs H Q _ => ∃ (p : Addr) (i : MIR.It) (s : Int) (a : Str), vs = [.ref p, .int s, .str a] ∧ ItAt CI H p i ∧ i.kept ≠ [] ∧ i.kept.length ≤ 20 ∧ (a = "old" → oldM i s ≠ []) ∧ ∀ (H' : Hp) (v : V), Same H H' → OvAt H' v (valM i s a) → Q v H'
theorem ok_value_read : FnOk PP w K mg base CX0 2 T.f_value_read T.d_value_read ["item", "stamp", "answer"] (spValRead T.c_Item) := by
  refine T.F_value_read.ok sc_value_read (fun vs H Q E h => ?_) (fun cdv A outer s H vs Q E hr h => ?_)
  · obtain ⟨p, i, s, a, rfl, _⟩ := h
    rfl
  · obtain ⟨p, i, s, a, rfl, hi, hne, h20, hold, kk⟩ := h
    refine ⟨_, pss_cons (ps_if (pt_cmpR op_eq (pv 2) pe_str (nomark _))
 (pss_one (ps_ret (pe_fld (pv 0) rfl)))
 pss_nil)
 (pss_cons (ps_if (pt_cmpR op_eq (pv 2) pe_str (nomark _))
 (pss_one (ps_ret (pe_ix ix_list (pe_call (ok_older_values T) (hr.mono (by decide)) (by rfl) T.g_older_values T.F_older_values.kp (b_older_values T) .nil pass0 (pa_cons (pv 0) (pa_cons (pv 1) pa_nil))) (pe_un un_neg pe_int) (fun _ _ => rfl))))
 pss_nil)
 (pss_one (ps_ret (pe_ix ix_tup (pe_ix ix_tup (pe_fld (pv 0) rfl) (pe_un un_neg pe_int) (fun _ _ => rfl)) pe_int (fun _ _ => rfl))))), ?_⟩
    have hi' := hi
    obtain ⟨dx, ka, hp, ps, hka, hps⟩ := hi
    refine ⟨_, rfl, rfl, _, rfl, ?_⟩
    rw [ds]
    by_cases e1 : a = "open"
    · rw [decide_eq_true e1]
      refine iteT ⟨_, rfl, p, T.c_Item, dx, _, _, rfl, hp, T.cl_Item, T.na_Item_value, rfl, kk H _ (Same.refl H) ?_⟩
      unfold valM vV
      rw [if_pos e1]
      cases i.opn with
      | none => rfl
      | some hv => rfl
    · rw [decide_eq_false e1]
      refine iteF ⟨_, rfl, rfl, _, rfl, ?_⟩
      rw [ds]
      by_cases e2 : a = "old"
      · rw [decide_eq_true e2]
        have hn := hold e2
        have hv : valM i s a = .int ((oldM i s).getLastD 0) := (if_neg e1).trans (if_pos e2)
        refine iteT ⟨_, rfl, _, rfl, p, i, s, rfl, hi', h20, fun H1 q s1 nq hq => ⟨_, rfl, q, _, _, .int ((oldM i s).getLastD 0), rfl, rfl, SqL.of hq, ?_, kk H1 _ s1 (by rw [hv]; rfl)⟩⟩
        obtain ⟨l, y, e⟩ : ∃ l y, oldM i s = l ++ [y] := ⟨_, _, (List.dropLast_concat_getLast hn).symm⟩
        rw [e, List.map_append]
        show atI (l.map V.int ++ [V.int y]) (-1) = _
        rw [atI_last]
        simp [List.getLastD_eq_getLast?]
      · rw [decide_eq_false e2]
        have hv : valM i s a = .int (lastV i).2 := (if_neg e1).trans (if_neg e2)
        obtain ⟨l, y, e, hy⟩ := hps.last (d := (0, 0)) hne
        have hy : H y = some (.tup [.int (lastV i).1, .int (lastV i).2]) := hy
        refine iteF ⟨_, rfl, p, T.c_Item, dx, _, _, rfl, hp, T.cl_Item, T.na_Item_kept, rfl, _, rfl, ka, _, _, .ref y, rfl, rfl, SqT.of hka, ?_, y, _, _, .int (lastV i).2, rfl, rfl, SqT.of hy, rfl, kk H _ (Same.refl H) (by rw [hv]; rfl)⟩
        rw [e, List.map_append]
        exact atI_last _ _
def spBinds : Sp := fun vs H Q _ => ∃ (e sp a : Str), vs = [.str e, .str sp, .str a] ∧ ∀ (H' : Hp), Same H H' → Q (.bl (bindM e sp a)) H'
theorem ok_binds : FnOk PP w K mg base CX0 1 T.f_binds T.d_binds ["ends", "spot", "answer"] spBinds := by
  refine T.F_binds.ok sc_binds (fun vs H Q E h => ?_) (fun cdv A outer s H vs Q E hr h => ?_)
  · obtain ⟨e, sp, a, rfl, _⟩ := h
    rfl
  · obtain ⟨e, sp, a, rfl, kk⟩ := h
    refine ⟨_, pss_cons (ps_if (pt_cmpR op_ne (pv 0) pe_str (nomark _))
 (pss_one (ps_ret pe_bl))
 pss_nil)
 (pss_cons (ps_if (pt_cmpR op_eq (pv 2) pe_str (nomark _))
 (pss_one (ps_ret (pe_cmpR op_ne (pv 1) pe_str (nomark _))))
 pss_nil)
 (pss_one (ps_ret (pe_and (pe_cmpR op_eq (pv 2) pe_str (nomark _)) (pe_one (pe_cmpR op_in_seq (pv 1) (pe_tup (pa_cons pe_str (pa_cons pe_str pa_nil))) rfl)))))), ?_⟩
    have two : 2 ≤ sizeLine := by decide
    refine ⟨_, rfl, rfl, _, rfl, ?_⟩
    rw [ds]
    by_cases e1 : e = "after"
    · rw [decide_eq_true e1]
      refine iteF ⟨_, rfl, rfl, _, rfl, ?_⟩
      rw [ds]
      by_cases e2 : a = "open"
      · rw [decide_eq_true e2]
        have hb : bindM e sp a = decide (sp ≠ "own") := by unfold bindM; rw [decide_eq_true e1, if_pos e2]; rfl
        rw [hb] at kk
        refine iteT ⟨_, rfl, rfl, ?_⟩
        rw [ds]
        have := kk H (Same.refl H)
        rw [show (!decide (sp = "own")) = decide (sp ≠ "own") from by by_cases q : sp = "own" <;> simp [q]]
        exact this
      · rw [decide_eq_false e2]
        have hb : bindM e sp a = (decide (a = "skip") && (decide (sp = "below") || decide (sp = "above"))) := by unfold bindM; rw [decide_eq_true e1, if_neg e2]; rfl
        rw [hb] at kk
        refine iteF ⟨_, rfl, rfl, _, rfl, ?_⟩
        rw [ds]
        by_cases e3 : a = "skip"
        · rw [decide_eq_true e3] at kk ⊢
          refine iteT ⟨_, rfl, two, fun t nt => ⟨t, _, rfl, .inr (SqT.of upd_same), rfl, rfl, ?_⟩⟩
          have := kk _ (same_new (o := .tup [.str "below", .str "above"]) (Same.refl H) nt)
          rw [show inV (V.str sp) [V.str "below", V.str "above"] = decide (sp ∈ (["below", "above"] : List Str)) from inV_str sp ["below", "above"]]
          rw [show decide (sp ∈ (["below", "above"] : List Str)) = (true && (decide (sp = "below") || decide (sp = "above"))) from by simp]
          exact this
        · rw [decide_eq_false e3] at kk ⊢
          exact iteF (kk H (Same.refl H))
    · rw [decide_eq_false e1]
      have hb : bindM e sp a = false := by unfold bindM; rw [decide_eq_false e1]; rfl
      rw [hb] at kk
      exact iteT (kk H (Same.refl H))
end
end K27

namespace K27
open PySem L2 SI CM BK OWN MIR StX TX TL
section
variable {w : World} {K : PySem.W.Frag} {mg : Str → Option Value} {base : Heap} (T : Txt w K mg)
def spBond (CS CI : Addr) : Sp := fun vs H Q _ => ∃ (p : Addr) (s h : Int) (U : List Int) (N : List Str) (σ : MIR.S), vs = [.ref p, .int s, .int h] ∧ StAt CS CI U N H p σ ∧ s ∈ U ∧ h ∈ U ∧ U.length ≤ 400 ∧ ∀ (H' : Hp) (q : Addr), Same H H' → StAt CS CI U N H' q (bondS σ s h) → Q (.ref q) H'
theorem ok_with_bond : FnOk PP w K mg base CX0 3 T.f_with_bond T.d_with_bond ["state", "stamp", "holder"] (spBond T.c_State T.c_Item) := by
  refine T.F_with_bond.ok sc_with_bond (fun vs H Q E h => ?_) (fun cdv A outer s H vs Q E hr h => ?_)
  · obtain ⟨p, s, h, U, N, σ, rfl, _⟩ := h
    rfl
  · obtain ⟨p, s, h, U, N, σ, rfl, st, hs, hh, hU, kk⟩ := h
    refine ⟨_, C8.pss_cut (ps_set (i := 3) sc_with_bond.nd rfl (.inl rfl) (pe_dget2 (hu_of hr) (pe_fld (pv 0) rfl) (pv 1) (pe_tup pa_nil) (by constructor <;> rfl)))
 (pss_cons (ps_if (pt_cmpR op_in_seq (pv 2) (pv 3) rfl)
 (pss_one (ps_ret (pv 0)))
 pss_nil)
 (pss_cons (ps_set (i := 4) sc_with_bond.nd rfl (.inl rfl) (pe_callTy call_dictD (by rfl) T.n_dict (by decide +kernel) (pa_cons (pe_fld (pv 0) rfl) pa_nil)))
 (pss_cons (ps_dput (hu_of hr) (pv 4) (pv 1) (pe_tup (pa_star (pv 3) (pa_cons (pv 2) pa_nil))) rfl)
 (pss_one (ps_ret (pe_make T.mk_State (ok_State_init T) (hr.mono (by decide)) (by rfl) T.g_State (b_State_init T) .nil pass0 (pa_cons (pe_fld (pv 0) rfl) (pa_cons (pe_fld (pv 0) rfl) (pa_cons (pv 4) pa_nil))))))))), ?_⟩
    obtain ⟨dx, dsx, dv, db, hp, n1, n2, n3, D1, D2, D3⟩ := st.ex
    obtain ⟨bv, hbv, bnd, hB⟩ := D3.ex
    obtain ⟨bdnd, bdU⟩ := bd_of hB s
    have zero : 0 ≤ sizeLine := by decide
    refine ⟨fun τ H' => ∃ q, τ = [some (.ref p), some (.int s), some (.int h), some (.ref q), none] ∧ H' q = some (.tup ((σ.bd s).map V.int)) ∧ Same H H', ?_, ?_⟩
    · refine ⟨_, rfl, p, T.c_State, dx, _, _, rfl, hp, T.cl_State, T.na_State_bonds, rfl, db, rfl, .inl ⟨bv, .inl hbv⟩, _, rfl, zero, fun t nt => ?_⟩
      have gg := DGet.k (k := Sum.inl s) (kp (o' := .tup []) nt hbv)
      have z := hB (.inl s)
      refine ⟨_, gg, ?_⟩
      cases e0 : valV bv (Sum.inl s) with
      | none =>
        rw [e0] at z
        exact ⟨t, rfl, by rw [show σ.bd s = [] from z]; exact upd_same, same_new (Same.refl H) nt⟩
      | some v =>
        rw [e0] at z
        obtain ⟨q, rfl, _, hq, _⟩ := z
        exact ⟨q, rfl, kp nt hq, same_new (Same.refl H) nt⟩
    rintro τ H1 ⟨q, rfl, hq, s1⟩
    have hp1 := s1 _ _ hp
    refine ⟨_, rfl, _, rfl, q, (σ.bd s).map V.int, rfl, .inr (SqT.of hq), rfl, flat_ints _, _, rfl, ?_⟩
    rw [inV_int]
    by_cases hb : h ∈ σ.bd s
    · rw [decide_eq_true hb]
      have e0 : bondS σ s h = σ := if_pos hb
      rw [e0] at kk
      exact iteT ⟨_, rfl, kk H1 p s1 (st.same s1)⟩
    · rw [decide_eq_false hb]
      have e0 : bondS σ s h = { σ with bd := fun t => if t = s then σ.bd s ++ [h] else σ.bd t } := if_neg hb
      rw [e0] at kk
      refine iteF ⟨_, rfl, p, T.c_State, dx, _, _, rfl, hp1, T.cl_State, T.na_State_bonds, rfl, db, bv, rfl, .inl (s1 _ _ hbv), fun O nO => ?_⟩
      have s2 := same_new (o := .dK bv) s1 nO
      have hO : (upd H1 O (.dK bv)) O = some (.dK bv) := upd_same
      have hq2 := kp (o' := .dK bv) nO hq
      have fO := s1.free nO
      generalize upd H1 O (.dK bv) = H2 at s2 hO hq2
      have bl : (σ.bd s).length ≤ 400 := by have := nd_le bdnd bdU; omega
      refine ⟨_, rfl, q, _, rfl, .inl (SqT.of hq2), _, rfl, by rw [List.length_append, List.length_map]; exact small1000 (show (σ.bd s).length ≤ 1000 by omega), fun u nu => ?_⟩
      have el : (σ.bd s).map V.int ++ [V.int h] = (σ.bd s ++ [h]).map V.int := by rw [List.map_append]; rfl
      rw [el]
      have s3 := same_new (o := .tup ((σ.bd s ++ [h]).map V.int)) s2 nu
      have hu : (upd H2 u (.tup ((σ.bd s ++ [h]).map V.int))) u = some (.tup ((σ.bd s ++ [h]).map V.int)) := upd_same
      have hO3 := kp (o' := .tup ((σ.bd s ++ [h]).map V.int)) nu hO
      generalize upd H2 u (.tup ((σ.bd s ++ [h]).map V.int)) = H3 at s3 hu hO3
      refine ⟨_, rfl, _, rfl, O, _, rfl, DPut.k (k := Sum.inl s) hO3 (small1000 (by have := len_bond bnd hB; omega)), ?_⟩
      have s4 : Same H (upd H3 O (.dK (putK bv (Sum.inl s) (.ref u)))) := fun x o z => by rw [upd_ne (ne_of_none z fO)]; exact s3 x o z
      have hO4 : (upd H3 O (.dK (putK bv (Sum.inl s) (.ref u)))) O = some (.dK (putK bv (Sum.inl s) (.ref u))) := upd_same
      have uO : u ≠ O := fun z => by rw [z, hO3] at hu; cases hu
      have hu4 : (upd H3 O (.dK (putK bv (Sum.inl s) (.ref u)))) u = some (.tup ((σ.bd s ++ [h]).map V.int)) := by rw [upd_ne uO]; exact hu
      generalize upd H3 O (.dK (putK bv (Sum.inl s) (.ref u))) = H4 at s4 hO4 hu4
      have hp4 := s4 _ _ hp
      refine ⟨_, rfl, p, T.c_State, dx, _, _, rfl, hp4, T.cl_State, T.na_State_store, rfl, _, rfl, p, T.c_State, dx, _, _, rfl, hp4, T.cl_State, T.na_State_over, rfl, _, rfl, fun x dx' nx ndx ne => mk_state nx ndx fun H5 s5 hx => ⟨rfl, ?_⟩⟩
      have s05 := s4.trans s5
      have nds : (σ.bd s ++ [h]).Nodup := List.nodup_append.mpr ⟨bdnd, List.nodup_cons.mpr ⟨List.not_mem_nil, List.nodup_nil⟩, fun a ha b hb' e => by rw [List.mem_singleton.mp hb'] at e; exact hb (e ▸ ha)⟩
      have pu := bond_put (σ' := { σ with bd := fun t => if t = s then σ.bd s ++ [h] else σ.bd t }) bnd hB s05 hs (s5 _ _ hu4) nds (fun y hy => (List.mem_append.mp hy).elim (bdU y) fun z => by rw [List.mem_singleton.mp z]; exact hh) (if_pos rfl) fun y ny => if_neg ny
      obtain ⟨sv, hsv, snd, hSt⟩ := D1.ex
      obtain ⟨ov, hov, ond, hOv⟩ := D2.ex
      exact kk H5 x s05 ⟨dx', dsx, dv, O, hx, n1, fun z => (by rw [← z, hsv] at fO; cases fO), fun z => (by rw [← z, hov] at fO; cases fO), ⟨sv, s05 _ _ hsv, snd, store_congr hSt (SameT.of s05) fun _ => rfl⟩, ⟨ov, s05 _ _ hov, ond, over_congr hOv fun _ => rfl⟩, ⟨_, s5 _ _ hO4, pu.1, pu.2⟩⟩
def spWItem (CS CI : Addr) : Sp := fun vs H Q _ => ∃ (p q : Addr) (n : Str) (i : MIR.It) (U : List Int) (N : List Str) (σ : MIR.S), vs = [.ref p, .str n, .ref q] ∧ StAt CS CI U N H p σ ∧ n ∈ N ∧ N.length ≤ 400 ∧ ItAt CI H q i ∧ WfI U i ∧ ∀ (H' : Hp) (q : Addr), Same H H' → StAt CS CI U N H' q (itS σ n i) → Q (.ref q) H'
theorem ok_with_item : FnOk PP w K mg base CX0 3 T.f_with_item T.d_with_item ["state", "name", "item"] (spWItem T.c_State T.c_Item) := by
  refine T.F_with_item.ok sc_with_item (fun vs H Q E h => ?_) (fun cdv A outer s H vs Q E hr h => ?_)
  · obtain ⟨p, q, n, i, U, N, σ, rfl, _⟩ := h
    rfl
  · obtain ⟨p, q, n, i, U, N, σ, rfl, st, hn, hN, hi, wf, kk⟩ := h
    refine ⟨_, pss_cons (ps_set (i := 3) sc_with_item.nd rfl (.inl rfl) (pe_callTy call_dictD (by rfl) T.n_dict (by decide +kernel) (pa_cons (pe_fld (pv 0) rfl) pa_nil)))
 (pss_cons (ps_dput (hu_of hr) (pv 3) (pv 1) (pv 2) rfl)
 (pss_one (ps_ret (pe_make T.mk_State (ok_State_init T) (hr.mono (by decide)) (by rfl) T.g_State (b_State_init T) .nil pass0 (pa_cons (pv 3) (pa_cons (pe_fld (pv 0) rfl) (pa_cons (pe_fld (pv 0) rfl) pa_nil))))))), ?_⟩
    obtain ⟨dx, dsx, dv, db, hp, n1, n2, n3, D1, D2, D3⟩ := st.ex
    obtain ⟨sv, hsv, snd, hSt⟩ := D1.ex
    obtain ⟨ov, hov, ond, hOv⟩ := D2.ex
    obtain ⟨bv, hbv, bnd, hB⟩ := D3.ex
    refine ⟨_, rfl, p, T.c_State, dx, _, _, rfl, hp, T.cl_State, T.na_State_store, rfl, dsx, sv, rfl, .inl hsv, fun O nO => ?_⟩
    refine ⟨_, rfl, _, rfl, _, rfl, O, _, rfl, DPut.k (k := Sum.inr n) upd_same (small1000 (by have := len_store snd hSt; omega)), ?_⟩
    have s2 : Same H (upd (upd H O (.dK sv)) O (.dK (putK sv (Sum.inr n) (.ref q)))) := fun x o z => by rw [upd_ne (ne_of_none z nO), upd_ne (ne_of_none z nO)]; exact z
    have hO2 : (upd (upd H O (.dK sv)) O (.dK (putK sv (Sum.inr n) (.ref q)))) O = some (.dK (putK sv (Sum.inr n) (.ref q))) := upd_same
    generalize upd (upd H O (.dK sv)) O (.dK (putK sv (Sum.inr n) (.ref q))) = H2 at s2 hO2
    have hp2 := s2 _ _ hp
    refine ⟨_, rfl, _, rfl, p, T.c_State, dx, _, _, rfl, hp2, T.cl_State, T.na_State_over, rfl, _, rfl, p, T.c_State, dx, _, _, rfl, hp2, T.cl_State, T.na_State_bonds, rfl, fun x dx' nx ndx ne => mk_state nx ndx fun H5 s5 hx => ⟨rfl, ?_⟩⟩
    have s05 := s2.trans s5
    have pu := store_put (σ' := itS σ n i) snd hSt (SameT.of s05) hn (hi.same s05) wf (if_pos rfl) fun y ny => if_neg ny
    exact kk H5 x s05 ⟨dx', O, dv, db, hx, fun z => (by rw [z, hov] at nO; cases nO), fun z => (by rw [z, hbv] at nO; cases nO), n3, ⟨_, s5 _ _ hO2, pu.1, pu.2⟩, ⟨ov, s05 _ _ hov, ond, over_congr hOv fun _ => rfl⟩, ⟨bv, s05 _ _ hbv, bnd, bond_congr hB s05 fun _ => rfl⟩⟩
def spWReader (CS CI : Addr) : Sp := fun vs H Q _ => ∃ (p : Addr) (n : Str) (s : Int) (U : List Int) (N : List Str) (σ : MIR.S), vs = [.ref p, .str n, .int s] ∧ StAt CS CI U N H p σ ∧ n ∈ N ∧ N.length ≤ 400 ∧ ∀ (H' : Hp) (q : Addr), Same H H' → StAt CS CI U N H' q (readS σ n s) → Q (.ref q) H'
theorem ok_with_reader : FnOk PP w K mg base CX0 4 T.f_with_reader T.d_with_reader ["state", "name", "stamp"] (spWReader T.c_State T.c_Item) := by
  refine T.F_with_reader.ok sc_with_reader (fun vs H Q E h => ?_) (fun cdv A outer s H vs Q E hr h => ?_)
  · obtain ⟨p, n, s, U, N, σ, rfl, _⟩ := h
    rfl
  · obtain ⟨p, n, s, U, N, σ, rfl, st, hn, hN, kk⟩ := h
    refine ⟨_, pss_cons (ps_set (i := 3) sc_with_reader.nd rfl (.inl rfl) (pe_call (ok_item_of T) (hr.mono (by decide)) (by rfl) T.g_item_of T.F_item_of.kp (b_item_of T) .nil pass0 (pa_cons (pv 0) (pa_cons (pv 1) pa_nil))))
 (pss_cons (ps_if (pt_cmpR op_le (pv 2) (pe_fld (pv 3) rfl) (nomark _))
 (pss_one (ps_ret (pv 0)))
 pss_nil)
 (pss_one (ps_ret (pe_call (ok_with_item T) (hr.mono (by decide)) (by rfl) T.g_with_item T.F_with_item.kp (b_with_item T) .nil pass0 (pa_cons (pv 0) (pa_cons (pv 1) (pa_cons (pe_make T.mk_Item (ok_Item_init T) (hr.mono (by decide)) (by rfl) T.g_Item (b_Item_init T) .nil pass0 (pa_cons (pe_fld (pv 3) rfl) (pa_cons (pe_fld (pv 3) rfl) (pa_cons (pe_fld (pv 3) rfl) (pa_cons (pv 2) pa_nil))))) pa_nil))))))), ?_⟩
    refine ⟨_, rfl, _, rfl, p, n, U, N, σ, rfl, st, fun H1 q s1 hi wf => ?_⟩
    obtain ⟨dx, ka, hq, hk⟩ := hi
    refine ⟨_, rfl, _, rfl, q, T.c_Item, dx, _, _, rfl, hq, T.cl_Item, T.na_Item_reader, rfl, _, _, rfl, rfl, _, rfl, ?_⟩
    by_cases c : s ≤ (σ.it n).rd
    · rw [decide_eq_true c]
      have e0 : readS σ n s = σ := if_pos c
      rw [e0] at kk
      exact iteT ⟨_, rfl, kk H1 p s1 (st.same s1)⟩
    · rw [decide_eq_false c]
      have e0 : readS σ n s = itS σ n { σ.it n with rd := s } := if_neg c
      rw [e0] at kk
      refine iteF ⟨_, rfl, _, rfl, _, rfl, q, T.c_Item, dx, _, _, rfl, hq, T.cl_Item, T.na_Item_kept, rfl, _, rfl, q, T.c_Item, dx, _, _, rfl, hq, T.cl_Item, T.na_Item_holder, rfl, _, rfl, q, T.c_Item, dx, _, _, rfl, hq, T.cl_Item, T.na_Item_value, rfl, _, rfl, fun x dx' nx ndx ne => mk_item nx ndx fun H5 s5 hx => ⟨rfl, ?_⟩⟩
      exact ⟨p, x, n, { σ.it n with rd := s }, U, N, σ, rfl, st.same (s1.trans s5), hn, hN, ⟨dx', ka, hx, hk.same s5⟩, { ne := wf.ne, le := wf.le, ho := wf.ho }, fun H6 r s6 hst => kk H6 r ((s1.trans s5).trans s6) hst⟩
end
end K27

namespace K27
open PySem L2 SI CM BK OWN MIR StX TX TL
section
variable {w : World} {K : PySem.W.Frag} {mg : Str → Option Value} {base : Heap} (T : Txt w K mg)
theorem place_spots (s x : Int) (h : Option Int) : placeM s x h ∈ SPOTS := by
  unfold placeM
  cases h with
  | none => show (if x < s then ("free" : Str) else "late") ∈ SPOTS; split <;> decide +kernel
  | some h => show (if h = s then ("own" : Str) else if s < x then "under" else if s < h then "below" else "above") ∈ SPOTS; exact (by by_cases a : h = s; (rw [if_pos a]; decide +kernel); rw [if_neg a]; by_cases c : s < x; (rw [if_pos c]; decide +kernel); rw [if_neg c]; by_cases g : s < h; (rw [if_pos g]; decide +kernel); rw [if_neg g]; decide +kernel)
theorem em_eq : ∀ k ∈ KINDS, ∀ sp ∈ SPOTS, ∀ p : Bool, entM k sp p = metM k sp p := by
  have h : ∀ k ∈ KINDS, ∀ sp ∈ SPOTS, ∀ p ∈ [true, false], entM k sp p = metM k sp p := by decide +kernel
  intro k hk sp hs p
  exact h k hk sp hs p (by cases p <;> simp)
def spotOf (σ : MIR.S) (s : Int) (n : Str) : Str := placeM s (lastV (σ.it n)).1 (hOf (σ.it n))
def entOf (σ : MIR.S) (kd : Str) (s : Int) (n : Str) : Option Str := metM kd (spotOf σ s n) (decide ((σ.it n).rd > s))
def metL (e : Option Str) : List Str := match e with | none => [] | some e => [e]
def ansL (B : Bkm) (kd sp : Str) (e : Option Str) : Str := match e with | none => MIR.fixM kd sp | some e => B.f e
noncomputable def askR (B : Bkm) (σ : MIR.S) (kd : Str) (s : Int) (n : Str) (v : Int) (met : List Str) (ans : Str) : MIR.S × Out :=
  if ans = "wait" then (σ, ⟨"wait", met, .tup [hInt (σ.it n)], []⟩)
  else if ans = "wound" then (fallS σ (fal σ (hInt (σ.it n))), ⟨"wound", met, .non, fal σ (hInt (σ.it n))⟩)
  else if ans = "abort" ∨ (ans = "old" ∧ oldM (σ.it n) s = []) then (fallS σ (fal σ s), ⟨"abort", met, .non, fal σ s⟩)
  else
    if kd = "read" then (readS (if bindM B.ends (spotOf σ s n) ans = true then bondS σ s (hInt (σ.it n)) else σ) n s, ⟨"read", met, valM (σ.it n) s ans, []⟩)
    else if ans = "skip" then (if bindM B.ends (spotOf σ s n) ans = true then bondS σ s (hInt (σ.it n)) else σ, ⟨"skip", met, .non, []⟩)
    else (itS (if bindM B.ends (spotOf σ s n) ans = true then bondS σ s (hInt (σ.it n)) else σ) n { σ.it n with opn := some (s, v) }, ⟨"put", met, .non, []⟩)
theorem ask_R (B : Bkm) (σ : MIR.S) (kd : Str) (s : Int) (n : Str) (v : Int) : askM B σ kd s n v = askR B σ kd s n v (metL (entOf σ kd s n)) (ansL B kd (spotOf σ s n) (entOf σ kd s n)) := rfl
/-- where nobody holds the item -/
theorem no_hold {f : Str → Str} (hf : ∀ x ∈ ENT, f x ∈ chs x) (B : Bkm) (hB : B.f = f) {kd : Str} (hk : kd ∈ KINDS) {s x : Int} (p : Bool) :
    ansL B kd (placeM s x none) (metM kd (placeM s x none) p) ∈ (["put", "abort", "last", "old", "skip"] : List Str) ∧ placeM s x none ∈ (["free", "late"] : List Str) := by
  have hs : placeM s x none ∈ (["free", "late"] : List Str) := by
    show (if x < s then ("free" : Str) else "late") ∈ _
    split <;> decide +kernel
  refine ⟨?_, hs⟩
  have h1 : ∀ k ∈ KINDS, ∀ sp ∈ (["free", "late"] : List Str), ∀ p ∈ [true, false], (match metM k sp p with | none => decide (MIR.fixM k sp ∈ (["put", "abort", "last", "old", "skip"] : List Str)) | some e => decide (e ∈ ENT) && (chs e).all fun a => decide (a ∈ (["put", "abort", "last", "old", "skip"] : List Str))) = true := by decide +kernel
  have h2 := h1 kd hk _ hs p (by cases p <;> simp)
  unfold ansL
  cases e : metM kd (placeM s x none) p with
  | none => rw [e] at h2; exact of_decide_eq_true h2
  | some y =>
    rw [e] at h2
    have h3 : (decide (y ∈ ENT) && (chs y).all fun a => decide (a ∈ (["put", "abort", "last", "old", "skip"] : List Str))) = true := h2
    rw [Bool.and_eq_true] at h3
    have h4 := List.all_eq_true.mp h3.2 (f y) (hf y (of_decide_eq_true h3.1))
    show B.f y ∈ _
    rw [hB]
    exact of_decide_eq_true h4
theorem ent_ENT {kd : Str} (hk : kd ∈ KINDS) {sp : Str} (hs : sp ∈ SPOTS) {p : Bool} {e : Str} (h : metM kd sp p = some e) : e ∈ ENT := ent_in kd hk sp hs p e (by rw [em_eq kd hk sp hs p]; exact h)
def FOk (U : List Int) (σ : MIR.S) (s h : Int) (o : Out) : Prop := (∀ t ∈ o.fallen, t ∈ U) ∧ (o.word ≠ "wound" → o.fallen = [] ∨ IsF σ s o.fallen) ∧ (o.word = "wound" → IsF σ h o.fallen)
theorem fok_nil {U : List Int} {σ : MIR.S} {s h : Int} {w : Str} {m : List Str} {v : OV} (hw : w ≠ "wound") : FOk U σ s h ⟨w, m, v, []⟩ := ⟨fun t h => (by cases h), fun _ => .inl rfl, fun z => absurd z hw⟩
/-- a step that reads or writes -/
def ReqAt (H : Hp) (st : Addr) (kd : Str) (s : Int) (n : Str) : Prop := H st = some (.tup [.str kd, .int s, .str n])
def spAsked (CB CS CI : Addr) : Sp := fun vs H Q _ => ∃ (b dxb d : Addr) (f : Str → Str) (e : Str) (k : Nat) (p st : Addr) (v : V) (z : Int) (kd : Str) (s : Int) (n : Str) (U : List Int) (N : List Str) (σ : MIR.S), vs = [.ref b, .ref p, .ref st, v] ∧
  Bk CB H b dxb d f e (k : Int) ∧ (∀ x ∈ ENT, f x ∈ chs x) ∧ ReqAt H st kd s n ∧ kd ∈ KINDS ∧ (kd = "write" → v = .int z) ∧ StAt CS CI U N H p σ ∧ s ∈ U ∧ n ∈ N ∧ U.length ≤ 400 ∧ N.length ≤ 400 ∧
  ∀ (H' : Hp) (q : Addr), Same H H' → PairAt CS CI U N H' q (askM ⟨f, e, k⟩ σ kd s n z) → FOk U σ s (hInt (σ.it n)) (askM ⟨f, e, k⟩ σ kd s n z).2 → Q (.ref q) H'
theorem ok_asked : FnOk PP w K mg base CX0 8 T.f_asked T.d_asked ["book", "state", "step", "value"] (spAsked T.c_Book T.c_State T.c_Item) := by
  refine T.F_asked.ok sc_asked (fun vs H Q E h => ?_) (fun cdv A outer s H vs Q E hr h => ?_)
  · obtain ⟨b, dxb, d, f, e, k, p, st, v, z, kd, s, n, U, N, σ, rfl, _⟩ := h
    rfl
  · obtain ⟨b, dxb, d, f, e, k, p, st, v, z, kd, s, n, U, N, σ, rfl, B, hf, hst, hkd, hv, hσ, hs, hn, hU, hN, kk⟩ := h
    refine ⟨_, pss_cons (ps_asg (pv 2) (pg_tup rfl (pgs_cons (pg_name (i := 4) sc_asked.nd rfl (.inl rfl)) (pgs_cons (pg_name (i := 5) sc_asked.nd rfl (.inl rfl)) (pgs_cons (pg_name (i := 6) sc_asked.nd rfl (.inl rfl)) pgs_nil)))))
 (pss_cons (ps_set (i := 7) sc_asked.nd rfl (.inl rfl) (pe_call (ok_item_of T) (hr.mono (by decide)) (by rfl) T.g_item_of T.F_item_of.kp (b_item_of T) .nil pass0 (pa_cons (pv 1) (pa_cons (pv 6) pa_nil))))
 (pss_cons (ps_set (i := 8) sc_asked.nd rfl (.inl rfl) (pe_call (ok_place T) (hr.mono (by decide)) (by rfl) T.g_place T.F_place.kp (b_place T) .nil pass0 (pa_cons (pv 5) (pa_cons (pe_ix ix_tup (pe_ix ix_tup (pe_fld (pv 7) rfl) (pe_un un_neg pe_int) (fun _ _ => rfl)) pe_int (fun _ _ => rfl)) (pa_cons (pe_fld (pv 7) rfl) pa_nil)))))
 (pss_cons (ps_set (i := 9) sc_asked.nd rfl (.inl rfl) (pe_call (ok_entry_met T) (hr.mono (by decide)) (by rfl) T.g_entry_met T.F_entry_met.kp (b_entry_met T) .nil pass0 (pa_cons (pv 4) (pa_cons (pv 8) (pa_cons (pe_cmpR op_gt (pe_fld (pv 7) rfl) (pv 5) (nomark _)) pa_nil)))))
 (C8.pss_cut (ps_if (pt_cmpR op_isN (pv 9) pe_non (nomark _))
 (pss_one (ps_par (i := 10) (j := 11) (by rfl) sc_asked.nd rfl rfl (by decide) rfl rfl (pa_cons (pe_tup pa_nil) (pa_cons (pe_call (ok_fixed T) (hr.mono (by decide)) (by rfl) T.g_fixed_answer T.F_fixed_answer.kp (b_fixed_answer T) .nil pass0 (pa_cons (pv 4) (pa_cons (pv 8) pa_nil))) pa_nil)) (by rfl)))
 (pss_one (ps_par (i := 10) (j := 11) (by rfl) sc_asked.nd rfl rfl (by decide) rfl rfl (pa_cons (pe_tup (pa_cons (pv 9) pa_nil)) (pa_cons (pe_ixO T.m_Book_getitem T.fi_Book_getitem (ownF (ok_get T) (b_Book_getitem T)) (hr.mono (by decide)) (fun σ => passAll passL σ) (pv 0) (pv 9) (fun _ _ => rfl)) pa_nil)) (by rfl))))
 (pss_cons (ps_if (pt_cmpR op_eq (pv 11) pe_str (nomark _))
 (pss_one (ps_ret (pe_tup (pa_cons (pv 1) (pa_cons (pe_tup (pa_cons pe_str (pa_cons (pv 10) (pa_cons (pe_tup (pa_cons (pe_fld (pv 7) rfl) pa_nil)) (pa_cons (pe_tup pa_nil) pa_nil))))) pa_nil)))))
 pss_nil)
 (pss_cons (ps_if (pt_cmpR op_eq (pv 11) pe_str (nomark _))
 (pss_cons (ps_asg (pe_call (ok_without T) (hr.mono (by decide)) (by rfl) T.g_without T.F_without.kp (b_without T) .nil pass0 (pa_cons (pv 1) (pa_cons (pe_fld (pv 7) rfl) pa_nil))) (pg_tup rfl (pgs_cons (pg_name (i := 12) sc_asked.nd rfl (.inl rfl)) (pgs_cons (pg_name (i := 13) sc_asked.nd rfl (.inl rfl)) pgs_nil))))
 (pss_one (ps_ret (pe_tup (pa_cons (pv 12) (pa_cons (pe_tup (pa_cons pe_str (pa_cons (pv 10) (pa_cons pe_non (pa_cons (pv 13) pa_nil))))) pa_nil))))))
 pss_nil)
 (C8.pss_cut (ps_if (PW.pt (pw_or (pt_cmpR op_eq (pv 11) pe_str (nomark _)) (pw_or1 (PW.pt (pw_and (pt_cmpR op_eq (pv 11) pe_str (nomark _)) (pw_and1 (pt_not (pt_truth (pe_call (ok_older_values T) (hr.mono (by decide)) (by rfl) T.g_older_values T.F_older_values.kp (b_older_values T) .nil pass0 (pa_cons (pv 7) (pa_cons (pv 5) pa_nil))) (by intro _; rfl)))))))))
 (pss_one (ps_ret (pe_call (ok_aborted T) (hr.mono (by decide)) (by rfl) T.g_aborted T.F_aborted.kp (b_aborted T) .nil pass0 (pa_cons (pv 1) (pa_cons (pv 5) (pa_cons (pv 10) pa_nil))))))
 pss_nil)
 (C8.pss_cut (ps_if (pt_val (pe_call (ok_binds T) (hr.mono (by decide)) (by rfl) T.g_binds T.F_binds.kp (b_binds T) .nil pass0 (pa_cons (pe_prop (pv 0) T.cl_Book T.p_Book_ends (ok_ends T) (hr.mono (by decide)) (b_Book_ends T) .nil pass0 rfl) (pa_cons (pv 8) (pa_cons (pv 11) pa_nil)))))
 (pss_one (ps_set (i := 1) sc_asked.nd rfl (.inl rfl) (pe_call (ok_with_bond T) (hr.mono (by decide)) (by rfl) T.g_with_bond T.F_with_bond.kp (b_with_bond T) .nil pass0 (pa_cons (pv 1) (pa_cons (pv 5) (pa_cons (pe_fld (pv 7) rfl) pa_nil))))))
 pss_nil)
 (pss_cons (ps_if (pt_cmpR op_eq (pv 4) pe_str (nomark _))
 (pss_one (ps_ret (pe_tup (pa_cons (pe_call (ok_with_reader T) (hr.mono (by decide)) (by rfl) T.g_with_reader T.F_with_reader.kp (b_with_reader T) .nil pass0 (pa_cons (pv 1) (pa_cons (pv 6) (pa_cons (pv 5) pa_nil)))) (pa_cons (pe_tup (pa_cons pe_str (pa_cons (pv 10) (pa_cons (pe_call (ok_value_read T) (hr.mono (by decide)) (by rfl) T.g_value_read T.F_value_read.kp (b_value_read T) .nil pass0 (pa_cons (pv 7) (pa_cons (pv 5) (pa_cons (pv 11) pa_nil)))) (pa_cons (pe_tup pa_nil) pa_nil))))) pa_nil)))))
 pss_nil)
 (pss_cons (ps_if (pt_cmpR op_eq (pv 11) pe_str (nomark _))
 (pss_one (ps_ret (pe_tup (pa_cons (pv 1) (pa_cons (pe_tup (pa_cons pe_str (pa_cons (pv 10) (pa_cons pe_non (pa_cons (pe_tup pa_nil) pa_nil))))) pa_nil)))))
 pss_nil)
 (pss_cons (ps_set (i := 14) sc_asked.nd rfl (.inl rfl) (pe_make T.mk_Item (ok_Item_init T) (hr.mono (by decide)) (by rfl) T.g_Item (b_Item_init T) .nil pass0 (pa_cons (pe_fld (pv 7) rfl) (pa_cons (pv 5) (pa_cons (pv 3) (pa_cons (pe_fld (pv 7) rfl) pa_nil))))))
 (pss_one (ps_ret (pe_tup (pa_cons (pe_call (ok_with_item T) (hr.mono (by decide)) (by rfl) T.g_with_item T.F_with_item.kp (b_with_item T) .nil pass0 (pa_cons (pv 1) (pa_cons (pv 6) (pa_cons (pv 14) pa_nil)))) (pa_cons (pe_tup (pa_cons pe_str (pa_cons (pv 10) (pa_cons pe_non (pa_cons (pe_tup pa_nil) pa_nil))))) pa_nil)))))))))))))))), ?_⟩
    have zero : 0 ≤ sizeLine := by decide
    have one : 1 ≤ sizeLine := by decide
    have two : 2 ≤ sizeLine := by decide
    have four : 4 ≤ sizeLine := by decide
    have hst : H st = some (.tup [.str kd, .int s, .str n]) := hst
    rw [ask_R] at kk
    refine ⟨_, rfl, st, _, rfl, SqT.of hst, rfl, _, _, rfl, _, _, rfl, _, _, rfl, rfl, ?_⟩
    refine ⟨_, rfl, _, rfl, p, n, U, N, σ, rfl, hσ, fun H1 q s1 hi wf => ?_⟩
    have hi' := hi
    obtain ⟨dx, ka, hq, ps, hka, hps⟩ := hi
    obtain ⟨l, y, el, hy⟩ := hps.last (d := (0, 0)) wf.ne
    have hy : H1 y = some (.tup [.int (lastV (σ.it n)).1, .int (lastV (σ.it n)).2]) := hy
    have hlast : atI (ps.map V.ref) (-1) = some (.ref y) := by rw [el, List.map_append]; exact atI_last _ _
    refine ⟨_, rfl, _, rfl, q, T.c_Item, dx, _, _, rfl, hq, T.cl_Item, T.na_Item_kept, rfl, _, rfl, ka, _, _, .ref y, rfl, rfl, SqT.of hka, hlast, y, _, _, .int (lastV (σ.it n)).1, rfl, rfl, SqT.of hy, rfl, _, rfl, q, T.c_Item, dx, _, _, rfl, hq, T.cl_Item, T.na_Item_holder, rfl, s, (lastV (σ.it n)).1, hOf (σ.it n), by rw [hV_o]; rfl, ?_⟩
    have hsp : placeM s (lastV (σ.it n)).1 (hOf (σ.it n)) ∈ SPOTS := place_spots _ _ _
    refine ⟨_, rfl, _, rfl, _, rfl, q, T.c_Item, dx, _, _, rfl, hq, T.cl_Item, T.na_Item_reader, rfl, _, rfl, _, _, rfl, rfl, kd, _, _, rfl, hkd, hsp, fun H2 s2 => ?_⟩
    rw [em_eq kd hkd _ hsp]
    have eent : metM kd (placeM s (lastV (σ.it n)).1 (hOf (σ.it n))) (decide ((σ.it n).rd > s)) = entOf σ kd s n := rfl
    rw [eent]
    have s12 := s1.trans s2
    generalize hen : entOf σ kd s n = en at kk eent
    have hspot : placeM s (lastV (σ.it n)).1 (hOf (σ.it n)) = spotOf σ s n := rfl
    rw [hspot] at hsp ⊢
    generalize han : ansL ⟨f, e, k⟩ kd (spotOf σ s n) en = an at kk
    refine ⟨fun τ H' => ∃ m, τ = [some (.ref b), some (.ref p), some (.ref st), some v, some (.str kd), some (.int s), some (.str n), some (.ref q), some (.str (spotOf σ s n)), some (oV en), some (.ref m), some (.str an), none, none, none] ∧ H' m = some (.tup ((metL en).map V.str)) ∧ Same H2 H', ?_, ?_⟩
    · cases en with
      | none =>
        refine ⟨_, rfl, rfl, _, rfl, iteT ⟨zero, fun t nt => ⟨_, rfl, _, rfl, kd, _, rfl, _, _, rfl, ?_⟩⟩⟩
        rw [← han]
        exact ⟨t, rfl, upd_same, same_new (Same.refl H2) nt⟩
      | some x =>
        have hx := ent_ENT hkd hsp hen
        refine ⟨_, rfl, rfl, _, rfl, iteF ⟨_, rfl, one, fun t nt => ?_⟩⟩
        have B3 := B.same (same_new (o := .tup [.str x]) s12 nt)
        refine ⟨_, rfl, _, rfl, b, dxb, _, rfl, B3.ins, b, dxb, d, f, e, k, .str x, rfl, B3, rfl, fun x' hx' _ => ?_, fun hn => absurd ⟨x, rfl, hx⟩ hn⟩
        cases hx'
        rw [← han]
        exact ⟨_, _, rfl, ⟨t, rfl, upd_same, same_new (Same.refl H2) nt⟩⟩
    rintro τ H3 ⟨m, rfl, hm, s23⟩
    have s3 := s12.trans s23
    have s13 := s2.trans s23
    have hq3 := s13 _ _ hq
    have hi3 := hi'.same s13
    have hσ3 := hσ.same s3
    have B3 := B.same s3
    have nohold : hOf (σ.it n) = none → an ∈ (["put", "abort", "last", "old", "skip"] : List Str) ∧ spotOf σ s n ∈ (["free", "late"] : List Str) := fun h0 => by
      have := no_hold hf ⟨f, e, k⟩ rfl hkd (s := s) (x := (lastV (σ.it n)).1) (decide ((σ.it n).rd > s))
      rw [← h0, hspot, show metM kd (spotOf σ s n) (decide ((σ.it n).rd > s)) = en from hen, han] at this
      exact this
    have holds : an ∉ (["put", "abort", "last", "old", "skip"] : List Str) → ∃ h z, (σ.it n).opn = some (h, z) := fun c => by
      cases ho : (σ.it n).opn with
      | none => exact absurd (nohold (by unfold hOf; rw [ho]; rfl)).1 c
      | some hz => exact ⟨hz.1, hz.2, rfl⟩
    refine ⟨_, rfl, rfl, _, rfl, ?_⟩
    rw [ds]
    by_cases c1 : an = "wait"
    · rw [decide_eq_true c1]
      obtain ⟨h, zz, ho⟩ := holds (by rw [c1]; decide +kernel)
      have e1 : hV (σ.it n) = .int (hInt (σ.it n)) := by unfold hV hInt; rw [ho]
      have er : askR ⟨f, e, k⟩ σ kd s n z (metL en) an = (σ, ⟨"wait", metL en, .tup [hInt (σ.it n)], []⟩) := if_pos c1
      rw [er] at kk
      refine iteT ⟨_, rfl, _, rfl, _, rfl, q, T.c_Item, dx, _, _, rfl, hq3, T.cl_Item, T.na_Item_holder, rfl, ?_⟩
      rw [e1]
      refine ⟨one, fun t nt => ⟨zero, fun u nu => ⟨four, fun o no => ⟨two, fun r nr => ?_⟩⟩⟩⟩
      have t1 := same_new (o := .tup [.int (hInt (σ.it n))]) (Same.refl H3) nt
      have t2 := same_new (o := .tup []) t1 nu
      have t3 := same_new (o := .tup [.str "wait", .ref m, .ref t, .ref u]) t2 no
      have t4 := same_new (o := .tup [.ref p, .ref o]) t3 nr
      exact kk _ r (s3.trans t4) ⟨p, o, upd_same, hσ.same (s3.trans t4), ⟨m, .ref t, u, kp nr upd_same, t4 _ _ hm, ⟨t, rfl, kp nr (kp no (kp nu upd_same))⟩, kp nr (kp no upd_same)⟩⟩ (fok_nil (by decide +kernel))
    rw [decide_eq_false c1]
    refine iteF ⟨_, rfl, rfl, _, rfl, ?_⟩
    rw [ds]
    by_cases c2 : an = "wound"
    · rw [decide_eq_true c2]
      obtain ⟨h, zz, ho⟩ := holds (by rw [c2]; decide +kernel)
      have e1 : hV (σ.it n) = .int (hInt (σ.it n)) := by unfold hV hInt; rw [ho]
      have hU' : hInt (σ.it n) ∈ U := by unfold hInt; rw [ho]; exact wf.ho h zz ho
      have er : askR ⟨f, e, k⟩ σ kd s n z (metL en) an = (fallS σ (fal σ (hInt (σ.it n))), ⟨"wound", metL en, .non, fal σ (hInt (σ.it n))⟩) := (if_neg c1).trans (if_pos c2)
      rw [er] at kk
      refine iteT ⟨_, rfl, _, rfl, q, T.c_Item, dx, _, _, rfl, hq3, T.cl_Item, T.na_Item_holder, rfl, p, hInt (σ.it n), U, N, σ, by rw [e1]; rfl, hσ3, hU', hU, hN, fun H4 q4 s4 ⟨a4, f4, hq4, hst4, hf4⟩ hF => ?_⟩
      refine ⟨q4, _, rfl, SqT.of hq4, rfl, _, _, rfl, _, _, rfl, rfl, ?_⟩
      refine ⟨_, rfl, _, rfl, _, rfl, four, fun o no => ⟨two, fun r nr => ?_⟩⟩
      have t3 := same_new (o := .tup [.str "wound", .ref m, .non, .ref f4]) (Same.refl H4) no
      have t4 := same_new (o := .tup [.ref a4, .ref o]) t3 nr
      exact kk _ r ((s3.trans s4).trans t4) ⟨a4, o, upd_same, hst4.same t4, ⟨m, .non, f4, kp nr upd_same, (s4.trans t4) _ _ hm, rfl, t4 _ _ hf4⟩⟩ ⟨hF.1, fun z => absurd rfl z, fun _ => hF.2⟩
    rw [decide_eq_false c2]
    refine iteF ?_
    refine ⟨fun τ H' => τ = [some (.ref b), some (.ref p), some (.ref st), some v, some (.str kd), some (.int s), some (.str n), some (.ref q), some (.str (spotOf σ s n)), some (oV en), some (.ref m), some (.str an), none, none, none] ∧ Same H3 H' ∧ ¬ (an = "abort" ∨ (an = "old" ∧ oldM (σ.it n) s = [])), ?_, ?_⟩
    · refine ⟨_, rfl, rfl, _, rfl, ?_⟩
      rw [ds]
      have abo : (an = "abort" ∨ (an = "old" ∧ oldM (σ.it n) s = [])) → ∀ {H4 : Hp}, Same H3 H4 → spAborted T.c_State T.c_Item [.ref p, .int s, .ref m] H4 Q E0 := fun c {H4} s34 => by
        have er : askR ⟨f, e, k⟩ σ kd s n z (metL en) an = (fallS σ (fal σ s), ⟨"abort", metL en, .non, fal σ s⟩) := (if_neg c1).trans ((if_neg c2).trans (if_pos c))
        rw [er] at kk
        exact ⟨p, m, s, metL en, U, N, σ, rfl, hσ3.same s34, hs, hU, hN, s34 _ _ hm, fun H5 q5 s5 hp hF => kk H5 q5 ((s3.trans s34).trans s5) hp ⟨hF.1, fun _ => .inr hF.2, fun z => absurd z (show ("abort" : Str) ≠ "wound" from by decide +kernel)⟩⟩
      by_cases c3 : an = "abort"
      · rw [decide_eq_true c3]
        exact iteT (iteT ⟨_, rfl, _, rfl, _, rfl, abo (.inl c3) (Same.refl _)⟩)
      rw [decide_eq_false c3]
      refine iteF ⟨_, rfl, rfl, _, rfl, ?_⟩
      rw [ds]
      by_cases c5 : an = "old"
      · rw [decide_eq_true c5]
        refine iteT ⟨_, rfl, _, rfl, q, σ.it n, s, rfl, hi3, wf.le, fun H4 r s34 nr hr => ⟨_, .inl ⟨_, SqL.of hr, rfl⟩, ?_⟩⟩
        cases hO : oldM (σ.it n) s with
        | nil => exact iteT ⟨_, rfl, _, rfl, _, rfl, abo (.inr ⟨c5, hO⟩) s34⟩
        | cons y l => exact iteF ⟨rfl, s34, fun z => z.elim c3 fun q => by cases q.2⟩
      · rw [decide_eq_false c5]
        exact iteF (iteF ⟨rfl, Same.refl _, fun z => z.elim c3 fun q => c5 q.1⟩)
    rintro τ H4 ⟨rfl, s34, c3⟩
    have er : askR ⟨f, e, k⟩ σ kd s n z (metL en) an = _ := (if_neg c1).trans ((if_neg c2).trans (if_neg c3))
    rw [er] at kk
    have hi4 := hi3.same s34
    have hq4 := s34 _ _ hq3
    have hm4 := s34 _ _ hm
    have s4 := s3.trans s34
    have hσ4 := hσ3.same s34
    have B4 := B3.same s34
    generalize hσ' : (if bindM e (spotOf σ s n) an = true then bondS σ s (hInt (σ.it n)) else σ) = σ' at kk
    refine ⟨fun τ H' => ∃ p', τ = [some (.ref b), some (.ref p'), some (.ref st), some v, some (.str kd), some (.int s), some (.str n), some (.ref q), some (.str (spotOf σ s n)), some (oV en), some (.ref m), some (.str an), none, none, none] ∧ Same H4 H' ∧ StAt T.c_State T.c_Item U N H' p' σ', ?_, ?_⟩
    · refine ⟨_, rfl, b, dxb, _, rfl, B4.ins, b, dxb, d, f, e, (k : Int), rfl, B4, _, rfl, _, rfl, e, _, an, rfl, fun H5 s5 => ⟨_, rfl, ?_⟩⟩
      by_cases cb : bindM e (spotOf σ s n) an = true
      · rw [cb]
        rw [if_pos cb] at hσ'
        obtain ⟨h, zz, ho⟩ : ∃ h z, (σ.it n).opn = some (h, z) := by
          cases ho : (σ.it n).opn with
          | some hz => exact ⟨hz.1, hz.2, rfl⟩
          | none =>
            obtain ⟨h1, h2⟩ := nohold (by unfold hOf; rw [ho]; rfl)
            have : ∀ a ∈ (["put", "abort", "last", "old", "skip"] : List Str), ∀ sp ∈ (["free", "late"] : List Str), bindM e sp a = false := by
              have : ∀ a ∈ (["put", "abort", "last", "old", "skip"] : List Str), ∀ sp ∈ (["free", "late"] : List Str), (if a = "open" then decide (sp ≠ "own") else decide (a = "skip") && (decide (sp = "below") || decide (sp = "above"))) = false := by decide +kernel
              intro a ha sp hsp
              unfold bindM
              rw [this a ha sp hsp, Bool.and_false]
            rw [this _ h1 _ h2] at cb
            cases cb
        have e1 : hV (σ.it n) = .int (hInt (σ.it n)) := by unfold hV hInt; rw [ho]
        have hU' : hInt (σ.it n) ∈ U := by unfold hInt; rw [ho]; exact wf.ho h zz ho
        refine iteT ⟨_, rfl, _, rfl, _, rfl, q, T.c_Item, dx, _, _, rfl, s5 _ _ hq4, T.cl_Item, T.na_Item_holder, rfl, p, s, hInt (σ.it n), U, N, σ, by rw [e1]; rfl, hσ4.same s5, hs, hU', hU, fun H6 p' s6 hst => ?_⟩
        rw [hσ'] at hst
        exact ⟨p', rfl, s5.trans s6, hst⟩
      · rw [if_neg cb] at hσ'
        have cb' : bindM e (spotOf σ s n) an = false := by cases q : bindM e (spotOf σ s n) an with | true => exact absurd q cb | false => rfl
        rw [cb', ← hσ']
        exact iteF ⟨p, rfl, s5, hσ4.same s5⟩
    rintro τ H5 ⟨p', rfl, s45, hst⟩
    have hi5 := hi4.same s45
    have hq5 := s45 _ _ hq4
    have hm5 := s45 _ _ hm4
    have s5 := s4.trans s45
    refine ⟨_, rfl, rfl, _, rfl, ?_⟩
    rw [ds]
    by_cases c6 : kd = "read"
    · rw [decide_eq_true c6]
      rw [if_pos c6] at kk
      refine iteT ⟨_, rfl, _, rfl, _, rfl, p', n, s, U, N, σ', rfl, hst, hn, hN, fun H6 p6 s56 hst6 => ?_⟩
      refine ⟨_, rfl, _, rfl, _, rfl, _, rfl, q, σ.it n, s, an, rfl, hi5.same s56, wf.ne, wf.le, fun ea hO => c3 (.inr ⟨ea, hO⟩), fun H7 y s67 hy => ⟨zero, fun u nu => ⟨four, fun o no => ⟨two, fun r nr => ?_⟩⟩⟩⟩
      have t2 := same_new (o := .tup []) (Same.refl H7) nu
      have t3 := same_new (o := .tup [.str "read", .ref m, y, .ref u]) t2 no
      have t4 := same_new (o := .tup [.ref p6, .ref o]) t3 nr
      have t57 := s56.trans s67
      exact kk _ r ((s5.trans t57).trans t4) ⟨p6, o, upd_same, hst6.same (s67.trans t4), ⟨m, y, u, kp nr upd_same, (t57.trans t4) _ _ hm5, hy.same t4, kp nr (kp no upd_same)⟩⟩ (fok_nil (by decide +kernel))
    rw [decide_eq_false c6]
    rw [if_neg c6] at kk
    refine iteF ⟨_, rfl, rfl, _, rfl, ?_⟩
    rw [ds]
    by_cases c7 : an = "skip"
    · rw [decide_eq_true c7]
      rw [if_pos c7] at kk
      refine iteT ⟨_, rfl, _, rfl, zero, fun u nu => ⟨four, fun o no => ⟨two, fun r nr => ?_⟩⟩⟩
      have t2 := same_new (o := .tup []) (Same.refl H5) nu
      have t3 := same_new (o := .tup [.str "skip", .ref m, .non, .ref u]) t2 no
      have t4 := same_new (o := .tup [.ref p', .ref o]) t3 nr
      exact kk _ r (s5.trans t4) ⟨p', o, upd_same, hst.same t4, ⟨m, .non, u, kp nr upd_same, t4 _ _ hm5, rfl, kp nr (kp no upd_same)⟩⟩ (fok_nil (by decide +kernel))
    rw [decide_eq_false c7]
    rw [if_neg c7] at kk
    have hw : kd = "write" := by
      have : kd ∈ KINDS := hkd
      simp only [KINDS, List.mem_cons, List.not_mem_nil, or_false] at this
      exact this.resolve_left c6
    have ev := hv hw
    subst ev
    obtain ⟨dx5, ka5, hq5', hk5⟩ := hi5
    refine iteF ⟨_, rfl, q, T.c_Item, dx5, _, _, rfl, hq5', T.cl_Item, T.na_Item_kept, rfl, _, rfl, _, rfl, _, rfl, q, T.c_Item, dx5, _, _, rfl, hq5', T.cl_Item, T.na_Item_reader, rfl, fun x dx' nx ndx ne => mk_item nx ndx fun H6 s56 hx => ⟨rfl, ?_⟩⟩
    refine ⟨_, rfl, _, rfl, _, rfl, p', x, n, { σ.it n with opn := some (s, z) }, U, N, σ', rfl, hst.same s56, hn, hN, ⟨dx', ka5, hx, hk5.same s56⟩, { ne := wf.ne, le := wf.le, ho := fun h v q => by cases q; exact hs }, fun H7 p7 s67 hst7 => ?_⟩
    refine ⟨_, rfl, zero, fun u nu => ⟨four, fun o no => ⟨two, fun r nr => ?_⟩⟩⟩
    have t2 := same_new (o := .tup []) (Same.refl H7) nu
    have t3 := same_new (o := .tup [.str "put", .ref m, .non, .ref u]) t2 no
    have t4 := same_new (o := .tup [.ref p7, .ref o]) t3 nr
    have t57 := s56.trans s67
    exact kk _ r ((s5.trans t57).trans t4) ⟨p7, o, upd_same, hst7.same t4, ⟨m, .non, u, kp nr upd_same, (t57.trans t4) _ _ hm5, rfl, kp nr (kp no upd_same)⟩⟩ (fok_nil (by decide +kernel))
end
end K27

namespace K27
open PySem L2 SI CM BK OWN MIR StX TX TL
section
variable {w : World} {K : PySem.W.Frag} {mg : Str → Option Value} {base : Heap} (T : Txt w K mg)
theorem isF_self {σ : MIR.S} {s : Int} {L : List Int} (h : IsF σ s L) : s ∈ L := (h.2 s).mpr .refl
/-- what asked gives by its word -/
theorem ask_wound {B : Bkm} {σ : MIR.S} {kd : Str} {s : Int} {n : Str} {v : Int} (h : (askM B σ kd s n v).2.word = "wound") : askM B σ kd s n v = (fallS σ (fal σ (hInt (σ.it n))), ⟨"wound", metL (entOf σ kd s n), .non, fal σ (hInt (σ.it n))⟩) := by
  rw [ask_R] at h ⊢
  generalize ansL B kd (spotOf σ s n) (entOf σ kd s n) = an at h ⊢
  unfold askR at h ⊢
  by_cases c1 : an = "wait"
  · rw [if_pos c1] at h; exact absurd h (show ("wait" : Str) ≠ "wound" from by decide +kernel)
  rw [if_neg c1] at h ⊢
  by_cases c2 : an = "wound"
  · rw [if_pos c2]
  rw [if_neg c2] at h ⊢
  by_cases c3 : an = "abort" ∨ (an = "old" ∧ oldM (σ.it n) s = [])
  · rw [if_pos c3] at h; exact absurd h (show ("abort" : Str) ≠ "wound" from by decide +kernel)
  rw [if_neg c3] at h ⊢
  by_cases c4 : kd = "read"
  · rw [if_pos c4] at h; exact absurd h (show ("read" : Str) ≠ "wound" from by decide +kernel)
  rw [if_neg c4] at h ⊢
  by_cases c5 : an = "skip"
  · rw [if_pos c5] at h; exact absurd h (show ("skip" : Str) ≠ "wound" from by decide +kernel)
  rw [if_neg c5] at h
  exact absurd h (show ("put" : Str) ≠ "wound" from by decide +kernel)
theorem wound_ans {B : Bkm} {σ : MIR.S} {kd : Str} {s : Int} {n : Str} {v : Int} (h : (askM B σ kd s n v).2.word = "wound") : ansL B kd (spotOf σ s n) (entOf σ kd s n) = "wound" := by
  rw [ask_R] at h
  generalize ansL B kd (spotOf σ s n) (entOf σ kd s n) = an at h ⊢
  unfold askR at h
  by_cases c1 : an = "wait"
  · rw [if_pos c1] at h; exact absurd h (show ("wait" : Str) ≠ "wound" from by decide +kernel)
  rw [if_neg c1] at h
  by_cases c2 : an = "wound"
  · exact c2
  rw [if_neg c2] at h
  by_cases c3 : an = "abort" ∨ (an = "old" ∧ oldM (σ.it n) s = [])
  · rw [if_pos c3] at h; exact absurd h (show ("abort" : Str) ≠ "wound" from by decide +kernel)
  rw [if_neg c3] at h
  by_cases c4 : kd = "read"
  · rw [if_pos c4] at h; exact absurd h (show ("read" : Str) ≠ "wound" from by decide +kernel)
  rw [if_neg c4] at h
  by_cases c5 : an = "skip"
  · rw [if_pos c5] at h; exact absurd h (show ("skip" : Str) ≠ "wound" from by decide +kernel)
  rw [if_neg c5] at h
  exact absurd h (show ("put" : Str) ≠ "wound" from by decide +kernel)
/-- nobody is wounded where nobody holds -/
theorem no_wound {B : Bkm} (hf : ∀ x ∈ ENT, B.f x ∈ chs x) {σ : MIR.S} {kd : Str} (hk : kd ∈ KINDS) {s : Int} {n : Str} {v : Int} (h0 : hOf (σ.it n) = none) : (askM B σ kd s n v).2.word ≠ "wound" := fun h => by
  have h1 := wound_ans h
  have h2 := no_hold hf B rfl hk (s := s) (x := (lastV (σ.it n)).1) (decide ((σ.it n).rd > s))
  rw [← h0] at h2
  have h3 : ansL B kd (spotOf σ s n) (entOf σ kd s n) ∈ (["put", "abort", "last", "old", "skip"] : List Str) := h2.1
  rw [h1] at h3
  exact absurd h3 (by decide +kernel)
theorem rel_none {L : List Int} {i : MIR.It} (h : hInt i ∈ L) : hOf (relI L i) = none := by
  unfold relI hOf
  unfold hInt at h
  cases e : i.opn with
  | none => show Option.map _ i.opn = none; rw [e]; rfl
  | some hv =>
    rw [e] at h
    show Option.map _ (if hv.1 ∈ L then { i with opn := none } else i).opn = none
    rw [if_pos h]; rfl
theorem ask_met {B : Bkm} {σ : MIR.S} {kd : Str} {s : Int} {n : Str} {v : Int} : (askM B σ kd s n v).2.met.length ≤ 1 := by
  rw [ask_R]
  have hm : (metL (entOf σ kd s n)).length ≤ 1 := by cases entOf σ kd s n with | none => exact Nat.zero_le _ | some _ => exact Nat.le_refl _
  generalize metL (entOf σ kd s n) = m at hm
  generalize ansL B kd (spotOf σ s n) (entOf σ kd s n) = an
  unfold askR
  by_cases c1 : an = "wait"
  · rw [if_pos c1]; exact hm
  rw [if_neg c1]
  by_cases c2 : an = "wound"
  · rw [if_pos c2]; exact hm
  rw [if_neg c2]
  by_cases c3 : an = "abort" ∨ (an = "old" ∧ oldM (σ.it n) s = [])
  · rw [if_pos c3]; exact hm
  rw [if_neg c3]
  by_cases c4 : kd = "read"
  · rw [if_pos c4]; exact hm
  rw [if_neg c4]
  by_cases c5 : an = "skip"
  · rw [if_pos c5]; exact hm
  rw [if_neg c5]; exact hm
def Srt (U : List Int) (o : Out) : Prop := (∀ t ∈ o.fallen, t ∈ U) ∧ o.fallen.Pairwise (· < ·)
theorem FOk.srt {U : List Int} {σ : MIR.S} {s h : Int} {o : Out} (f : FOk U σ s h o) : Srt U o := ⟨f.1, by
  by_cases c : o.word = "wound"
  · exact (f.2.2 c).1
  · rcases f.2.1 c with e | e
    · rw [e]; exact List.Pairwise.nil
    · exact e.1⟩
def spReq (CB CS CI : Addr) : Sp := fun vs H Q _ => ∃ (b dxb d : Addr) (f : Str → Str) (e : Str) (k : Nat) (p st : Addr) (v : V) (z : Int) (kd : Str) (s : Int) (n : Str) (U : List Int) (N : List Str) (σ : MIR.S), vs = [.ref b, .ref p, .ref st, v] ∧
  Bk CB H b dxb d f e (k : Int) ∧ (∀ x ∈ ENT, f x ∈ chs x) ∧ ReqAt H st kd s n ∧ kd ∈ KINDS ∧ (kd = "write" → v = .int z) ∧ StAt CS CI U N H p σ ∧ s ∈ U ∧ n ∈ N ∧ U.length ≤ 400 ∧ N.length ≤ 400 ∧
  ∀ (H' : Hp) (q : Addr), Same H H' → PairAt CS CI U N H' q (reqM ⟨f, e, k⟩ σ kd s n z) → Srt U (reqM ⟨f, e, k⟩ σ kd s n z).2 → Q (.ref q) H'
theorem ok_requested : FnOk PP w K mg base CX0 9 T.f_requested T.d_requested ["book", "state", "step", "value"] (spReq T.c_Book T.c_State T.c_Item) := by
  refine T.F_requested.ok sc_requested (fun vs H Q E h => ?_) (fun cdv A outer s H vs Q E hr h => ?_)
  · obtain ⟨b, dxb, d, f, e, k, p, st, v, z, kd, s, n, U, N, σ, rfl, _⟩ := h
    rfl
  · obtain ⟨b, dxb, d, f, e, k, p, st, v, z, kd, s, n, U, N, σ, rfl, B, hf, hst, hkd, hv, hσ, hs, hn, hU, hN, kk⟩ := h
    refine ⟨_, pss_cons (ps_asg (pe_call (ok_asked T) (hr.mono (by decide)) (by rfl) T.g_asked T.F_asked.kp (b_asked T) .nil pass0 (pa_cons (pv 0) (pa_cons (pv 1) (pa_cons (pv 2) (pa_cons (pv 3) pa_nil))))) (pg_tup rfl (pgs_cons (pg_name (i := 4) sc_requested.nd rfl (.inl rfl)) (pgs_cons (pg_name (i := 5) sc_requested.nd rfl (.inl rfl)) pgs_nil))))
 (pss_cons (ps_asg (pv 5) (pg_tup rfl (pgs_cons (pg_name (i := 6) sc_requested.nd rfl (.inl rfl)) (pgs_cons (pg_name (i := 7) sc_requested.nd rfl (.inl rfl)) (pgs_cons (pg_name (i := 8) sc_requested.nd rfl (.inl rfl)) (pgs_cons (pg_name (i := 9) sc_requested.nd rfl (.inl rfl)) pgs_nil))))))
 (pss_cons (ps_if (pt_cmpR op_ne (pv 6) pe_str (nomark _))
 (pss_one (ps_ret (pe_tup (pa_cons (pv 4) (pa_cons (pv 5) pa_nil)))))
 pss_nil)
 (pss_cons (ps_if (pt_cmpR op_in_seq (pe_ix ix_tup (pv 2) pe_int (fun _ _ => rfl)) (pv 9) rfl)
 (pss_one (ps_ret (pe_tup (pa_cons (pv 4) (pa_cons (pe_tup (pa_cons pe_str (pa_cons (pv 7) (pa_cons pe_non (pa_cons (pv 9) pa_nil))))) pa_nil)))))
 pss_nil)
 (pss_cons (ps_asg (pe_call (ok_asked T) (hr.mono (by decide)) (by rfl) T.g_asked T.F_asked.kp (b_asked T) .nil pass0 (pa_cons (pv 0) (pa_cons (pv 4) (pa_cons (pv 2) (pa_cons (pv 3) pa_nil))))) (pg_tup rfl (pgs_cons (pg_name (i := 10) sc_requested.nd rfl (.inl rfl)) (pgs_cons (pg_tup rfl (pgs_cons (pg_name (i := 6) sc_requested.nd rfl (.inl rfl)) (pgs_cons (pg_name (i := 11) sc_requested.nd rfl (.inl rfl)) (pgs_cons (pg_name (i := 12) sc_requested.nd rfl (.inl rfl)) (pgs_cons (pg_name (i := 13) sc_requested.nd rfl (.inl rfl)) pgs_nil))))) pgs_nil))))
 (pss_one (ps_ret (pe_tup (pa_cons (pv 10) (pa_cons (pe_tup (pa_cons (pv 6) (pa_cons (pe_tup (pa_star (pv 7) (pa_star (pv 11) pa_nil))) (pa_cons (pv 12) (pa_cons (pe_call (ok_ascending T) (hr.mono (by decide)) (by rfl) T.g_ascending T.F_ascending.kp (b_ascending T) .nil pass0 (pa_cons (pe_lst (pa_star (pv 9) (pa_star (pv 13) pa_nil))) pa_nil)) pa_nil))))) pa_nil))))))))), ?_⟩
    have two : 2 ≤ sizeLine := by decide
    have four : 4 ≤ sizeLine := by decide
    refine ⟨_, rfl, _, rfl, _, rfl, _, rfl, b, dxb, d, f, e, k, p, st, v, z, kd, s, n, U, N, σ, rfl, B, hf, hst, hkd, hv, hσ, hs, hn, hU, hN, fun H1 q1 s1 hp1 hf1 => ?_⟩
    have wnd := @ask_wound ⟨f, e, k⟩ σ kd s n z
    have am := fun σ' => @ask_met ⟨f, e, k⟩ σ' kd s n z
    have am1 := am σ
    have nwn := fun σ' h0 => @no_wound ⟨f, e, k⟩ hf σ' kd hkd s n z h0
    have rdef : reqM ⟨f, e, k⟩ σ kd s n z = (if (askM ⟨f, e, k⟩ σ kd s n z).2.word ≠ "wound" then askM ⟨f, e, k⟩ σ kd s n z else if s ∈ (askM ⟨f, e, k⟩ σ kd s n z).2.fallen then ((askM ⟨f, e, k⟩ σ kd s n z).1, { (askM ⟨f, e, k⟩ σ kd s n z).2 with word := "abort", val := .non }) else ((askM ⟨f, e, k⟩ (askM ⟨f, e, k⟩ σ kd s n z).1 kd s n z).1, ⟨(askM ⟨f, e, k⟩ (askM ⟨f, e, k⟩ σ kd s n z).1 kd s n z).2.word, (askM ⟨f, e, k⟩ σ kd s n z).2.met ++ (askM ⟨f, e, k⟩ (askM ⟨f, e, k⟩ σ kd s n z).1 kd s n z).2.met, (askM ⟨f, e, k⟩ (askM ⟨f, e, k⟩ σ kd s n z).1 kd s n z).2.val, asc ((askM ⟨f, e, k⟩ σ kd s n z).2.fallen ++ (askM ⟨f, e, k⟩ (askM ⟨f, e, k⟩ σ kd s n z).1 kd s n z).2.fallen)⟩)) := rfl
    rw [rdef] at kk
    generalize askM ⟨f, e, k⟩ σ kd s n z = r at kk hp1 hf1 wnd am1
    obtain ⟨a1, b1, hq1, hst1, m1, v1, f1, hb1, hm1, hv1, hff1⟩ := hp1
    refine ⟨q1, _, rfl, SqT.of hq1, rfl, _, _, rfl, _, _, rfl, rfl, ?_⟩
    refine ⟨_, rfl, b1, _, rfl, SqT.of hb1, rfl, _, _, rfl, _, _, rfl, _, _, rfl, _, _, rfl, rfl, ?_⟩
    refine ⟨_, rfl, rfl, _, rfl, ?_⟩
    rw [ds]
    by_cases c1 : r.2.word = "wound"
    case neg =>
      rw [decide_eq_false c1]
      rw [if_pos c1] at kk
      refine iteT ⟨_, rfl, _, rfl, two, fun o no => ?_⟩
      have t1 := same_new (o := .tup [.ref a1, .ref b1]) (Same.refl H1) no
      exact kk _ o (s1.trans t1) ⟨a1, b1, upd_same, hst1.same t1, ⟨m1, v1, f1, t1 _ _ hb1, t1 _ _ hm1, hv1.same t1, t1 _ _ hff1⟩⟩ hf1.srt
    rw [decide_eq_true c1]
    rw [if_neg (fun z => z c1)] at kk
    have hst : H st = some (.tup [.str kd, .int s, .str n]) := hst
    refine iteF ⟨_, rfl, st, _, _, .int s, rfl, rfl, SqT.of (s1 _ _ hst), rfl, _, rfl, f1, _, rfl, .inr (SqT.of hff1), rfl, flat_ints _, _, rfl, ?_⟩
    rw [inV_int]
    by_cases c2 : s ∈ r.2.fallen
    · rw [decide_eq_true c2]
      rw [if_pos c2] at kk
      refine iteT ⟨_, rfl, _, rfl, _, rfl, four, fun o no => ⟨two, fun u nu => ?_⟩⟩
      have t1 := same_new (o := .tup [.str "abort", .ref m1, .non, .ref f1]) (Same.refl H1) no
      have t2 := same_new (o := .tup [.ref a1, .ref o]) t1 nu
      exact kk _ u (s1.trans t2) ⟨a1, o, upd_same, hst1.same t2, ⟨m1, .non, f1, kp nu upd_same, t2 _ _ hm1, rfl, t2 _ _ hff1⟩⟩ hf1.srt
    rw [decide_eq_false c2]
    rw [if_neg c2] at kk
    have er := wnd c1
    have hF : IsF σ (hInt (σ.it n)) r.2.fallen := hf1.2.2 c1
    have ef : r.2.fallen = fal σ (hInt (σ.it n)) := by rw [er]
    have e1 : r.1 = fallS σ r.2.fallen := by rw [er]
    have h0 : hOf (r.1.it n) = none := by rw [e1]; exact rel_none (isF_self hF)
    have nw := nwn r.1 h0
    refine iteF ⟨_, rfl, _, rfl, _, rfl, _, rfl, b, dxb, d, f, e, k, a1, st, v, z, kd, s, n, U, N, r.1, rfl, B.same s1, hf, s1 _ _ hst, hkd, hv, hst1, hs, hn, hU, hN, fun H2 q2 s2 hp2 hf2 => ?_⟩
    have am2 := am r.1
    generalize askM ⟨f, e, k⟩ r.1 kd s n z = t at kk hp2 hf2 nw am2
    obtain ⟨a2, b2, hq2, hst2, m2, v2, f2, hb2, hm2, hv2, hff2⟩ := hp2
    refine ⟨q2, _, rfl, SqT.of hq2, rfl, _, _, rfl, _, _, rfl, ⟨b2, _, rfl, SqT.of hb2, rfl, _, _, rfl, _, _, rfl, _, _, rfl, _, _, rfl, rfl, rfl, ?_⟩⟩
    have ndd : (r.2.fallen ++ t.2.fallen).Nodup := by
      refine List.nodup_append.mpr ⟨strict_nd hF.1, strict_nd hf2.srt.2, fun x hx y hy exy => ?_⟩
      subst exy
      rcases hf2.2.1 nw with e0 | e0
      · rw [e0] at hy; cases hy
      · have hr := (e0.2 x).mp hy
        cases hr with
        | refl => exact c2 hx
        | step _ _ ho =>
          rw [e1] at ho
          have : (fallS σ r.2.fallen).ov x = some false := if_pos hx
          rw [this] at ho; cases ho
    have l1 : r.2.fallen.length ≤ 400 := by have := nd_le (strict_nd hF.1) hf1.1; omega
    have l2 : t.2.fallen.length ≤ 400 := by have := nd_le (strict_nd hf2.srt.2) hf2.1; omega
    have hm1' := s2 _ _ hm1
    have hf1' := s2 _ _ hff1
    refine ⟨_, rfl, _, rfl, _, rfl, m1, _, rfl, .inl (SqT.of hm1'), _, rfl, m2, _, rfl, .inl (SqT.of hm2), by rw [List.append_nil, List.length_append, List.length_map, List.length_map]; exact Nat.le_trans (show _ ≤ 2 by omega) two, fun u nu => ?_⟩
    rw [List.append_nil, ← List.map_append]
    have t1 := same_new (o := .tup ((r.2.met ++ t.2.met).map V.str)) (Same.refl H2) nu
    have hu : (upd H2 u (.tup ((r.2.met ++ t.2.met).map V.str))) u = some (.tup ((r.2.met ++ t.2.met).map V.str)) := upd_same
    generalize upd H2 u (.tup ((r.2.met ++ t.2.met).map V.str)) = H3 at t1 hu
    refine ⟨_, rfl, _, rfl, f1, _, rfl, .inl (SqT.of (t1 _ _ hf1')), _, rfl, f2, _, rfl, .inl (SqT.of (t1 _ _ hff2)), by rw [List.append_nil, List.length_append, List.length_map, List.length_map]; exact Nat.le_of_lt (small1000 (by omega)), fun L nL => ?_⟩
    rw [List.append_nil, ← List.map_append]
    refine ⟨L, r.2.fallen ++ t.2.fallen, rfl, SqL.of upd_same, by rw [List.length_append]; omega, fun H4 g ms s4 ng pm ps hg => ⟨four, fun o no => ⟨two, fun y ny => ?_⟩⟩⟩
    have ea : asc (r.2.fallen ++ t.2.fallen) = ms := asc_eq (perm_asc pm ps ndd)
    rw [ea] at kk
    have t2 := (same_new (o := .lst ((r.2.fallen ++ t.2.fallen).map V.int)) t1 nL).trans s4
    have t3 := same_new (o := .tup [.str t.2.word, .ref u, v2, .ref g]) (Same.refl H4) no
    have t4 := same_new (o := .tup [.ref a2, .ref o]) t3 ny
    have t24 := t2.trans t4
    have t34 : Same H3 _ := ((same_new (o := .lst ((r.2.fallen ++ t.2.fallen).map V.int)) (Same.refl H3) nL).trans s4).trans t4
    refine kk _ y ((s1.trans s2).trans t24) ⟨a2, o, upd_same, hst2.same t24, ⟨u, v2, g, kp ny upd_same, t34 _ _ hu, hv2.same t24, t4 _ _ hg⟩⟩ ⟨fun x hx => ?_, (perm_asc pm ps ndd).1⟩
    rcases List.mem_append.mp (pm.mem_iff.mp hx) with q | q
    · exact hf1.1 x q
    · exact hf2.1 x q
end
end K27

namespace K27
open PySem L2 SI CM BK OWN MIR StX TX TL
section
variable {w : World} {K : PySem.W.Frag} {mg : Str → Option Value} {base : Heap} (T : Txt w K mg)
def StpAt (H : Hp) (st : Addr) : Stp → Prop
  | .req k s n => H st = some (.tup [.str k, .int s, .str n])
  | .com s => H st = some (.tup [.str "commit", .int s])
  | .abo s => H st = some (.tup [.str "abort", .int s])
theorem StpAt.same {H H' : Hp} {st : Addr} (s : Same H H') : ∀ {x : Stp}, StpAt H st x → StpAt H' st x
  | .req _ _ _, h => s _ _ h
  | .com _, h => s _ _ h
  | .abo _, h => s _ _ h
def StpOk (U : List Int) (N : List Str) (v : V) (z : Int) : Stp → Prop
  | .req k s n => s ∈ U ∧ n ∈ N ∧ k ∈ KINDS ∧ (k = "write" → v = .int z)
  | .com s => s ∈ U
  | .abo s => s ∈ U
theorem StpOk.who {U : List Int} {N : List Str} {v : V} {z : Int} : ∀ {x : Stp}, StpOk U N v z x → x.who ∈ U
  | .req _ _ _, h => h.1
  | .com _, h => h
  | .abo _, h => h
def wordOf : Stp → Str
  | .req k _ _ => k
  | .com _ => "commit"
  | .abo _ => "abort"
noncomputable def takeN (B : Bkm) (σ : MIR.S) (x : Stp) (z : Int) : MIR.S × Out := match x with
  | .com s => if waitsOf σ s ≠ [] then (σ, ⟨"wait", [], .tup (asc (waitsOf σ s)), []⟩) else (commS σ s B.keep, ⟨"commit", [], .non, []⟩)
  | .abo s => (fallS σ (fal σ s), ⟨"abort", [], .non, fal σ s⟩)
  | .req k s n => reqM B σ k s n z
def spTaken (CB CS CI : Addr) : Sp := fun vs H Q _ => ∃ (b dxb d : Addr) (f : Str → Str) (e : Str) (k : Nat) (p st : Addr) (v : V) (z : Int) (x : Stp) (U : List Int) (N : List Str) (σ : MIR.S), vs = [.ref b, .ref p, .ref st, v] ∧
  Bk CB H b dxb d f e (k : Int) ∧ (∀ x ∈ ENT, f x ∈ chs x) ∧ 1 ≤ k ∧ k ≤ 20 ∧ StpAt H st x ∧ StpOk U N v z x ∧ StAt CS CI U N H p σ ∧ U.length ≤ 400 ∧ N.length ≤ 400 ∧
  ∀ (H' : Hp) (q : Addr), Same H H' → PairAt CS CI U N H' q (takeM ⟨f, e, k⟩ σ x z) → Srt U (takeM ⟨f, e, k⟩ σ x z).2 → Q (.ref q) H'
theorem ok_taken : FnOk PP w K mg base CX0 10 T.f_taken T.d_taken ["book", "state", "step", "value"] (spTaken T.c_Book T.c_State T.c_Item) := by
  refine T.F_taken.ok sc_taken (fun vs H Q E h => ?_) (fun cdv A outer s H vs Q E hr h => ?_)
  · obtain ⟨b, dxb, d, f, e, k, p, st, v, z, x, U, N, σ, rfl, _⟩ := h
    rfl
  · obtain ⟨b, dxb, d, f, e, k, p, st, v, z, x, U, N, σ, rfl, B, hf, k1, k20, hst, hx, hσ, hU, hN, kk⟩ := h
    refine ⟨_, C8.pss_cut (ps_asg (pe_slice sl_tupA (pv 2) po_none (po_some pe_int)) (pg_tup rfl (pgs_cons (pg_name (i := 4) sc_taken.nd rfl (.inl rfl)) (pgs_cons (pg_name (i := 5) sc_taken.nd rfl (.inl rfl)) pgs_nil))))
 (pss_cons (ps_if (pt_cmp (pc_din (hu_of hr) (pv 5) (pe_fld (pv 1) rfl)))
 (pss_one (ps_ret (pe_tup (pa_cons (pv 1) (pa_cons (pe_tup (pa_cons pe_str (pa_cons (pe_tup pa_nil) (pa_cons pe_non (pa_cons (pe_tup pa_nil) pa_nil))))) pa_nil)))))
 pss_nil)
 (pss_cons (ps_if (pt_cmpR op_eq (pv 4) pe_str (nomark _))
 (pss_one (ps_ret (pe_call (ok_committed T) (hr.mono (by decide)) (by rfl) T.g_committed T.F_committed.kp (b_committed T) .nil pass0 (pa_cons (pv 0) (pa_cons (pv 1) (pa_cons (pv 5) pa_nil))))))
 pss_nil)
 (pss_cons (ps_if (pt_cmpR op_eq (pv 4) pe_str (nomark _))
 (pss_one (ps_ret (pe_call (ok_aborted T) (hr.mono (by decide)) (by rfl) T.g_aborted T.F_aborted.kp (b_aborted T) .nil pass0 (pa_cons (pv 1) (pa_cons (pv 5) (pa_cons (pe_tup pa_nil) pa_nil))))))
 pss_nil)
 (pss_one (ps_ret (pe_call (ok_requested T) (hr.mono (by decide)) (by rfl) T.g_requested T.F_requested.kp (b_requested T) .nil pass0 (pa_cons (pv 0) (pa_cons (pv 1) (pa_cons (pv 2) (pa_cons (pv 3) pa_nil)))))))))), ?_⟩
    have zero : 0 ≤ sizeLine := by decide
    have two : 2 ≤ sizeLine := by decide
    have four : 4 ≤ sizeLine := by decide
    refine ⟨fun τ H' => τ = [some (.ref b), some (.ref p), some (.ref st), some v, some (.str (wordOf x)), some (.int x.who)] ∧ Same H H', ?_, ?_⟩
    · cases x with
      | req kd s n =>
        have hst : H st = some (.tup [.str kd, .int s, .str n]) := hst
        refine ⟨_, rfl, _, rfl, st, _, rfl, SqT.of hst, fun hw => ?_, fun hw y ny => ?_⟩
        · have h2 : HT.sIx 3 3 (some ((2 : Nat) : Int)) = 3 := hw.2
          rw [HT.sIx_nat] at h2
          exact absurd h2 (by decide)
        · exact ⟨y, [.str kd, .int s], rfl, SqT.of upd_same, rfl, _, _, rfl, _, _, rfl, rfl, rfl, same_new (Same.refl H) ny⟩
      | com s =>
        have hst : H st = some (.tup [.str "commit", .int s]) := hst
        refine ⟨_, rfl, _, rfl, st, _, rfl, SqT.of hst, fun hw => ?_, fun hw y ny => ?_⟩
        · exact ⟨st, [.str "commit", .int s], rfl, SqT.of hst, rfl, _, _, rfl, _, _, rfl, rfl, rfl, Same.refl H⟩
        · exact absurd ⟨HT.sIx_none 2 0, HT.sIx_nat 2 2 2⟩ hw
      | abo s =>
        have hst : H st = some (.tup [.str "abort", .int s]) := hst
        refine ⟨_, rfl, _, rfl, st, _, rfl, SqT.of hst, fun hw => ?_, fun hw y ny => ?_⟩
        · exact ⟨st, [.str "abort", .int s], rfl, SqT.of hst, rfl, _, _, rfl, _, _, rfl, rfl, rfl, Same.refl H⟩
        · exact absurd ⟨HT.sIx_none 2 0, HT.sIx_nat 2 2 2⟩ hw
    rintro τ H1 ⟨rfl, s1⟩
    have hσ1 := hσ.same s1
    have B1 := B.same s1
    have hst1 := hst.same s1
    obtain ⟨dx, dsx, dv, db, hp, n1, n2, n3, D1, D2, D3⟩ := hσ1.ex
    obtain ⟨ov, hov, ond, hO⟩ := D2.ex
    have g := DGet.k (k := Sum.inl x.who) hov
    have ho := hO (.inl x.who)
    refine ⟨_, rfl, _, rfl, p, T.c_State, dx, _, _, rfl, hp, T.cl_State, T.na_State_over, rfl, dv, _, rfl, g, ?_⟩
    cases e0 : valV ov (Sum.inl x.who) with
    | some y =>
      rw [e0] at ho
      obtain ⟨bb, _, _, eb⟩ := ho
      have er : takeM ⟨f, e, k⟩ σ x z = (σ, ⟨"void", [], .non, []⟩) := if_pos (by rw [eb]; rfl)
      rw [er] at kk
      refine ⟨_, rfl, iteT ⟨_, rfl, zero, fun u nu => ⟨zero, fun v nv => ⟨four, fun o no => ⟨two, fun r nr => ?_⟩⟩⟩⟩⟩
      have t1 := same_new (o := .tup []) (Same.refl H1) nu
      have t2 := same_new (o := .tup []) t1 nv
      have t3 := same_new (o := .tup [.str "void", .ref u, .non, .ref v]) t2 no
      have t4 := same_new (o := .tup [.ref p, .ref o]) t3 nr
      exact kk _ r (s1.trans t4) ⟨p, o, upd_same, hσ1.same t4, ⟨u, .non, v, kp nr upd_same, kp nr (kp no (kp nv upd_same)), rfl, kp nr (kp no upd_same)⟩⟩ ⟨fun t h => (by cases h), List.Pairwise.nil⟩
    | none =>
      rw [e0] at ho
      have ho : σ.ov x.who = none := ho
      have er : takeM ⟨f, e, k⟩ σ x z = takeN ⟨f, e, k⟩ σ x z := if_neg (by rw [ho]; exact Bool.false_ne_true)
      rw [er] at kk
      refine ⟨_, rfl, iteF ⟨_, rfl, rfl, _, rfl, ?_⟩⟩
      rw [ds]
      cases x with
      | com s =>
        rw [decide_eq_true (show wordOf (.com s) = "commit" from rfl)]
        have hs : s ∈ U := hx
        refine iteT ⟨_, rfl, _, rfl, _, rfl, b, dxb, d, f, e, k, p, s, U, N, σ, rfl, B1, k1, k20, hσ1, hs, hU, hN, fun H2 q s2 hq => kk H2 q (s1.trans s2) hq ?_⟩
        show Srt U (comM σ s k).2
        unfold comM
        split <;> exact ⟨fun t h => (by cases h), List.Pairwise.nil⟩
      | abo s =>
        rw [decide_eq_false (show ¬ wordOf (.abo s) = "commit" from (by decide +kernel : ¬ ("abort" : Str) = "commit"))]
        refine iteF ⟨_, rfl, rfl, _, rfl, ?_⟩
        rw [ds, decide_eq_true (show wordOf (.abo s) = "abort" from rfl)]
        have hs : s ∈ U := hx
        refine iteT ⟨_, rfl, _, rfl, zero, fun u nu => ?_⟩
        have t1 := same_new (o := .tup []) (Same.refl H1) nu
        exact ⟨p, u, s, [], U, N, σ, rfl, hσ1.same t1, hs, hU, hN, upd_same, fun H2 q s2 hq hF => kk H2 q (s1.trans (t1.trans s2)) hq ⟨hF.1, hF.2.1⟩⟩
      | req kd s n =>
        obtain ⟨hs, hn, hk, hv⟩ := hx
        have w1 : ¬ wordOf (.req kd s n) = "commit" := by
          have : ∀ k ∈ KINDS, ¬ k = "commit" := by decide +kernel
          exact this kd hk
        have w2 : ¬ wordOf (.req kd s n) = "abort" := by
          have : ∀ k ∈ KINDS, ¬ k = "abort" := by decide +kernel
          exact this kd hk
        rw [decide_eq_false w1]
        refine iteF ⟨_, rfl, rfl, _, rfl, ?_⟩
        rw [ds, decide_eq_false w2]
        exact iteF ⟨_, rfl, _, rfl, _, rfl, _, rfl, b, dxb, d, f, e, k, p, st, v, z, kd, s, n, U, N, σ, rfl, B1, hf, hst1, hk, hv, hσ1, hs, hn, hU, hN, fun H2 q s2 hq hF => kk H2 q (s1.trans s2) hq hF⟩
end
end K27

/-! for i, x in enumerate(xs, start=c). -/
namespace EN
open PySem PySem.Spec PyProof.Rows L2
/-- the list at a, each item in a new pair behind a count from c on -/
def IteC (K : PySem.W.Frag) (a : Addr) (c : Int) : L2.It where
  go := fun i H => ∃ (xs : List V) (x : V), SqL K H a xs ∧ xs[i]? = some x
  yld := fun i H v H' => ∃ T x, v = .ref T ∧ H T = none ∧ H' = upd H T (.tup [.int (c + (i : Nat)), x]) ∧ ∀ xs, SqL K H a xs → xs[i]? = some x
  stop := fun i H => ∃ xs : List V, SqL K H a xs ∧ xs.length = i
theorem turn_enumC {P : Program} {w : World} {K : PySem.W.Frag} {elts : List Expr} {kk : Nat} {tpos : Pos} (a e it : Addr) (c : Int) :
    Turn P w K (.Tuple elts kk tpos) (IteC K a c) [e, it] e (fun i h => (∃ old, IsEnum h e it (c + (i : Nat)) old) ∧ h.IsListIter it a i ∧ e ≠ it) where
  mem := List.mem_cons_self ..
  obj := fun i h st b hb => by
    obtain ⟨⟨old, he⟩, ⟨o, ho, hc, hd⟩, _⟩ := st
    rcases List.mem_cons.mp hb with z | z
    · rw [z]; exact ⟨_, he, fun v q => nomatch q⟩
    · rw [List.mem_singleton.mp z]; exact ⟨o, ho, fun v q => by rw [hd] at q; cases q⟩
  keep := fun i h h' ⟨⟨old, he⟩, hi, hne⟩ k => ⟨⟨old, k e (by simp) _ he⟩, hi.at fun o q => k it (by simp) o q, hne⟩
  item := by
    rintro X rfl rfl rfl hcalm i pins s σ H E I hf ⟨⟨old, he⟩, hit, hne⟩ ⟨xs, x, hq, hx⟩
    obtain ⟨its, rv, p, hz⟩ := I.list hq
    obtain ⟨u, hu, ru⟩ := rv.get hx
    have ne1 : a ≠ it := fun z => by
      obtain ⟨o1, g1, c1, _⟩ := hit
      obtain ⟨o2, g2, c2, _⟩ := p.isList
      rw [z, g1] at g2
      cases g2
      rw [c1] at c2
      injection c2 with c2
      exact absurd c2 (by decide)
    have ne2 : e ≠ a := fun z => by
      obtain ⟨o2, g2, c2, _⟩ := p.isList
      have h2 : s.heap.get? e = some _ := he
      rw [z, g2] at h2
      have h3 := Option.some.inj h2
      rw [h3] at c2
      injection c2 with c2
      exact absurd c2 (by decide)
    have hel : e < s.heap.objs.size := Heap.lt_size he
    have hil : it < s.heap.objs.size := by obtain ⟨_, q, _⟩ := hit; exact Heap.lt_size q
    have hlen : i < its.toArray.size := by
      have := (List.getElem?_eq_some_iff.mp hu).1
      simpa using this
    refine wpAny_pyNext_enum_itemC (Draws.list (A := X.A.in1) (I.ok.hd hcalm) it a ne1 its.toArray) he ⟨hit, p.isList⟩ hlen hne (by simp [hne, ne2]) fun y h' tk hP ho hs' hT hsz hk => ?_
    have hy : y = u := by
      have z : its[i]? = some y := by simpa using hP
      rw [hu] at z
      exact (Option.some.inj z).symm
    subst hy
    refine ⟨_, rfl, wpAny_letOwnedTupleGo_enum (s := { s with heap := h', toks := tk + 1 }) ho fun h'' he' sb => ?_⟩
    have hT2 : h''.get? s.heap.objs.size = some { cls := .type "tuple", data := .seq #[.int (c + (i : Nat)) tk, y] } := (sb.2 _ (Nat.ne_of_gt hel)).trans hT
    have new : ObjOk X.prog X.w (upd H s.heap.objs.size (.tup [.int (c + (i : Nat)), x])) h'' s.heap.objs.size (.tup [.int (c + (i : Nat)), x]) :=
      ⟨show 2 ≤ sizeLine by decide, [.int (c + (i : Nat)) tk, y], .cons ⟨_, rfl⟩ (.cons ru .nil), ⟨_, hT2, rfl, _, rfl⟩⟩
    have I1 : Inv X pins σ (upd H s.heap.objs.size (.tup [.int (c + (i : Nat)), x])) { s with heap := h'', toks := tk + 1 } :=
      I.turnedNew (ch := [e, it]) (fun b ob hb q => (sb.2 b (fun z => hb (by simp [z]))).trans (hk b ob (fun z => hb (by simp [z])) (fun z => hb (by simp [z])) q)) hf (Nat.le_refl _) new
    refine ⟨.ref s.heap.objs.size, _, I1, rfl, ⟨_, x, rfl, I.hok.fresh (Nat.le_refl _), rfl, fun ys hy => by rw [I.list_inj hy hq]; exact hx⟩, ⟨⟨y, ?_⟩, hs'.1.at fun o q => (sb.2 it (Ne.symm hne)).trans q, hne⟩, fun b hb => ?_⟩
    · have e1 : c + ((i + 1 : Nat) : Int) = c + (i : Nat) + 1 := by omega
      rw [e1]; exact he'
    · have hb' : b < s.heap.objs.size := by
        rcases List.mem_cons.mp hb with z | z
        · rw [z]; exact hel
        · rw [List.mem_singleton.mp z]; exact hil
      rw [upd_ne (Nat.ne_of_lt hb')]
      exact (hf b hb).1
  done := by
    rintro X rfl rfl rfl hcalm i pins s σ H E I hf ⟨⟨old, he⟩, hit, hne⟩ ⟨xs, hq, hx⟩
    obtain ⟨its, rv, p, hz⟩ := I.list hq
    obtain ⟨f0, f1, f2, f3, f4, f5⟩ := hf it (by simp)
    have hl := rv.length
    have ne1 : a ≠ it := fun z => by
      obtain ⟨o1, g1, c1, _⟩ := hit
      obtain ⟨o2, g2, c2, _⟩ := p.isList
      rw [z, g1] at g2
      cases g2
      rw [c1] at c2
      injection c2 with c2
      exact absurd c2 (by decide)
    have hn : i = its.toArray.size := by simp; omega
    exact wpAny_pyNext_enum_endD (Draws.list (A := X.A.in1) (I.ok.hd hcalm) it a ne1 its.toArray) he ⟨hn ▸ hit, p.isList⟩ fun h' eb => ⟨rfl, I.turned (t' := s.toks) (fun b o hb q => eb b o hb q) f0 f1 f3 f4 f5⟩
  self := fun A i s Q E ⟨⟨_, he⟩, _⟩ h => wpAny_pyIter_enum he h
theorem type_kw {M : Model} {A : Around} {E : Value → Shared → Prop} {s : Shared} {env : Env} {pos : Pos} {T : String} {e : Expr} {kws : List Keyword} {Q : Value → Shared → Prop}
    (h : wpAny M A (spliced (backTo pos (starEach [e] env))) (fun vs s1 => wpAny M A (evalAll ((backToKw pos (keywordEach kws env)).map (·.2))) (fun ks s2 => wpAny M A (call (.type T) vs (((backToKw pos (keywordEach kws env)).filterMap (·.1)).zip ks)) Q E s2) E s1) E s)
    (he : backTo pos (starEach [e] env) = (false, eval e env) :: backTo pos (starEach [] env)) (hp : (backTo pos (starEach [e] env)).any (·.1) = false) (ha : (backToKw pos (keywordEach kws env)).all (·.1.isSome) = true) (hn : (backToKw pos (keywordEach kws env)).any (·.1.isNone) = false) :
    wpAny M A (callWith pos (.type T) [] (backTo pos (starEach [e] env)) (backToKw pos (keywordEach kws env))) Q E s := by
  have h2 : wpAny M A (evalArgs (.type T) true (backTo pos (starEach [e] env)) (backToKw pos (keywordEach kws env))) (fun a s1 => wpAny M A (call (.type T) ([] ++ a.pos) a.kw) Q E s1) E s := by
    rw [he] at h ⊢
    exact evalArgs_kwB ha h
  unfold callWith
  refine wpAny_bind (wpAny_holding (wpAny_mono h2 (fun a s1 h1 => wpAny_bind (wpAny_standAt ?_)) fun _ _ x => x))
  simp only [hp, hn, Bool.or_false]
  exact wpAny_bind (wpAny_pure (wpAny_bind (wpAny_mono h1 (fun r s2 hr => wpAny_bind (wpAny_holding (wpAny_point (wpAny_pure hr)))) fun _ _ x => x)))
section
variable {X : Cx}
def iEnumK (K : PySem.W.Frag) (t tk : TA) : TI := fun σ H R => t σ H fun vs H1 => tk σ H1 fun zs H2 => ∃ a xs c, vs = [.ref a] ∧ zs = [.int c] ∧ 0 ≤ c ∧ c < 2 ^ 62 ∧ SqL K H2 a xs ∧ R (IteC K a c) H2
theorem pi_enumK {e : Expr} {kws : List Keyword} {t tk : TA} {p pos tpos : Pos} {elts : List Expr} {kk : Nat} (hg : Gl X "enumerate") (hm : X.mg "enumerate" = none) (ha : PA X [e] t) (hk : PK X kws tk)
    (he : backTo pos (starEach [e] X.env) = (false, eval e X.env) :: backTo pos (starEach [] X.env) := by rfl) (hpl : (backTo pos (starEach [e] X.env)).any (·.1) = false := by rfl)
    (hall : (backToKw pos (keywordEach kws X.env)).all (·.1.isSome) = true := by rfl) (hnone : (backToKw pos (keywordEach kws X.env)).any (·.1.isNone) = false := by rfl) (hks : (backToKw pos (keywordEach kws X.env)).filterMap (·.1) = [Str.ofString "start"] := by rfl) :
    PI X (.Tuple elts kk tpos) (.Call (.Name "enumerate" p) [e] kws pos) (iEnumK X.K t tk) := by
  refine ⟨fun pins s σ H R I h => ?_⟩
  refine wpAny_Call_Name_kw (ld_blt I hg hm boot_enumerate ?_ (by decide) (by decide))
  refine type_kw (thn (ha.run pos pins s σ H _ I h) fun us s1 ⟨vs, H1, I1, r1, q1⟩ => thn (hk.run pos pins s1 σ H1 _ I1 q1) fun ws s2 ⟨zs, H2, I2, r2, a, xs, c, e1, e2, c0, c1, hq, q⟩ => ?_) he hpl hall hnone
  rw [hks]
  subst e1 e2
  obtain rfl := Vals.ref1 r1
  obtain ⟨w1, rfl, t1, rfl⟩ := vals1 r2
  obtain ⟨its, rv, p', hz⟩ := I2.list hq
  have fin : ∀ h', IsEnum h' (s2.heap.objs.size + 1) s2.heap.objs.size c .none → h'.IsListIter s2.heap.objs.size a 0 → (∀ b o, s2.heap.get? b = some o → h'.get? b = some o) → PIE X pins σ (.Tuple elts kk tpos) R (.ref (s2.heap.objs.size + 1)) { s2 with heap := h' } := fun h' hE hit hkk => by
    have I3 : Inv X pins σ H2 { s2 with heap := h' } := I2.kept (t' := s2.toks) hkk
    have z0 : c + ((0 : Nat) : Int) = c := by omega
    refine ⟨s2.heap.objs.size + 1, [s2.heap.objs.size + 1, s2.heap.objs.size], _, _, H2, rfl, I3, turn_enumC a (s2.heap.objs.size + 1) s2.heap.objs.size c, ⟨⟨.none, by rw [z0]; exact hE⟩, hit, Nat.succ_ne_self _⟩, fun b hb => ?_, q⟩
    have hle : s2.heap.objs.size ≤ b := by
      rcases List.mem_cons.mp hb with z | z
      · rw [z]; exact Nat.le_succ _
      · rw [List.mem_singleton.mp z]; exact Nat.le_refl _
    exact I2.fpOk hle (I2.hok.fresh hle)
  show wpAny (model X.prog X.w) X.A (call (.type "enumerate") [.ref a] [(Str.ofString "start", .int c t1)]) _ _ _
  exact enum_begins_start (begins_list a its.toArray) p'.isList (by omega) (by omega) fun h' hE hit hsz hkk => wpAny_pyIter_enum hE (fin h' hE ⟨_, hit, rfl, rfl⟩ hkk)
theorem walk_enumC {K : PySem.W.Frag} {a : Addr} {c : Int} {xs : List V} : Walk (IteC K a c) xs.length (fun H => SqL K H a xs) (YPair (fun i => some (.int (c + (i : Nat)))) (fun i => xs[i]?)) :=
  ⟨fun i _ hi q => ⟨xs, xs[i], q, by simp [hi]⟩, fun _ q => ⟨xs, q, rfl⟩, fun i H v H' _ q ⟨T, x, h1, h2, h3, h4⟩ => ⟨T, .int (c + (i : Nat)), x, h1, h2, h3, rfl, h4 xs q⟩⟩
end
end EN

namespace K27
open PySem L2 SI CM BK OWN MIR StX TX TL
section
variable {w : World} {K : PySem.W.Frag} {mg : Str → Option Value} {base : Heap} (T : Txt w K mg)
def flat4 : V → Bool
  | .int _ => true | .bl _ => true | .str _ => true | .non => true | _ => false
theorem flat4_V {v : V} (h : flat4 v = true) : flatV v = true := by cases v <;> first | rfl | cases h
def top30 : Int := 1000000000000000000000000000000
def stampV : V → Int → Bool
  | .int n, l => decide (l ≤ n) && decide (n ≤ top30)
  | _, _ => false
def spIs : Sp := fun vs H Q _ => ∃ v l, vs = [v, .int l] ∧ flat4 v = true ∧ Q (.bl (stampV v l)) H
theorem ok_is : FnOk PP w K mg base CX0 1 T.f_is_stamp T.d_is_stamp ["number", "least"] spIs := by
  refine T.F_is_stamp.ok sc_is_stamp (fun vs H Q E h => ?_) (fun cdv A outer s H vs Q E hr h => ?_)
  · obtain ⟨v, l, rfl, _⟩ := h
    rfl
  · obtain ⟨v, l, rfl, fv, k⟩ := h
    obtain ⟨tg, hG⟩ := T.g_GREATEST
    refine ⟨_, pss_cons (ps_if (PW.pt (pw_or (pt_val (pe_callB call_isi (by rfl) T.n_isinstance (by decide +kernel) (pa_cons (pv 0) (pa_cons (pe_bltn (v := .ty "bool") (by rfl) T.n_bool (by decide +kernel) rfl) pa_nil))))
        (pw_or1 (pt_not (pt_val (pe_callB call_isi (by rfl) T.n_isinstance (by decide +kernel) (pa_cons (pv 0) (pa_cons (pe_bltn (v := .ty "int") (by rfl) T.n_int (by decide +kernel) rfl) pa_nil)))))))) (pss_one (ps_ret pe_bl)) pss_nil)
      (pss_one (ps_ret (pe_chain op_le op_le (pv 1) (pv 0) (pe_glob (v := .int top30) (by rfl) hG ⟨_, rfl⟩)))), ?_⟩
    cases v with
    | int n =>
      refine ⟨_, rfl, _, _, _, _, false, rfl, ClsV.ty _, .base (.int _), kit_ty (by decide +kernel), _, rfl, ?_⟩
      refine iteF ?_
      refine ⟨_, rfl, _, _, _, _, true, rfl, ClsV.ty _, .base (.int _), kit_ty (by decide +kernel), _, rfl, ?_⟩
      refine iteF ?_
      refine ⟨_, rfl, _, rfl, _, _, rfl, rfl, _, rfl, ?_⟩
      by_cases hl : l ≤ n
      · rw [decide_eq_true hl]
        refine iteT ⟨_, _, rfl, rfl, ?_⟩
        have e : stampV (.int n) l = decide (n ≤ top30) := by simp [stampV, hl]
        rw [e] at k
        exact k
      · rw [decide_eq_false hl]
        refine iteF ?_
        have e : stampV (.int n) l = false := by simp [stampV, hl]
        rw [e] at k
        exact k
    | bl b =>
      refine ⟨_, rfl, _, _, _, _, true, rfl, ClsV.ty _, .base (.bl _), kit_ty (by decide +kernel), _, rfl, ?_⟩
      exact iteT k
    | str x =>
      refine ⟨_, rfl, _, _, _, _, false, rfl, ClsV.ty _, .base (.str _), kit_ty (by decide +kernel), _, rfl, ?_⟩
      refine iteF ?_
      refine ⟨_, rfl, _, _, _, _, false, rfl, ClsV.ty _, .base (.str _), kit_ty (by decide +kernel), _, rfl, ?_⟩
      exact iteT k
    | non =>
      refine ⟨_, rfl, _, _, _, _, false, rfl, ClsV.ty _, .base .non, kit_ty (by decide +kernel), _, rfl, ?_⟩
      refine iteF ?_
      refine ⟨_, rfl, _, _, _, _, false, rfl, ClsV.ty _, .base .non, kit_ty (by decide +kernel), _, rfl, ?_⟩
      exact iteT k
    | _ => cases fv
theorem kbIS : ∃ (g : List Value → List Value → List Value), KBn K T.d_is_stamp ["number", "least"] 1 ["least"] g (fun vs zs => vs ++ zs) := by
  obtain ⟨its, h⟩ := T.F_is_stamp.kbindsD (ps := ["number", "least"]) 1 ["least"] (fun us its ws => us ++ ws) (by simp) (fun r1 _ r3 => r1.append r3)
    fun T kV doc pm an cdv ct us its ws l1 l2 l3 => match us, its, ws, l1, l2, l3 with
      | [_], [_], [_], _, _, _ => ⟨_, rfl, rfl⟩
  exact ⟨_, h⟩
abbrev SIG : Str := "abcdefghijklmnopqrstuvwxyz0123456789"
def nameV : V → Bool
  | .str z => decide (1 ≤ z.length) && (decide (z.length ≤ 8) && (TL.tl z).all fun c => decide (c ∈ TL.tl SIG))
  | _ => false
def spName : Sp := fun vs H Q _ => ∃ v, vs = [v] ∧ flat4 v = true ∧ (∀ z, v = .str z → z.length ≤ 900) ∧ ∀ H', Same H H' → Q (.bl (nameV v)) H'
theorem ok_is_name : FnOk PP w K mg base CX0 1 T.f_is_name T.d_is_name ["name"] spName := by
  refine T.F_is_name.ok sc_is_name (fun vs H Q E h => ?_) (fun cdv A outer s H vs Q E hr h => ?_)
  · obtain ⟨v, rfl, _⟩ := h
    rfl
  · obtain ⟨v, rfl, fv, hz, k⟩ := h
    obtain ⟨t1, hG_LONGEST_NAME⟩ := T.g_LONGEST_NAME
    obtain ⟨t2, hG_SIGNS⟩ := T.g_SIGNS
    refine ⟨_, pss_cons (ps_if (pt_not (pt_val (pe_callB call_isi (by rfl) T.n_isinstance (by decide +kernel) (pa_cons (pv 0) (pa_cons (pe_bltn (v := .ty "str") (by rfl) T.n_str (by decide +kernel) rfl) pa_nil)))))
 (pss_one (ps_ret pe_bl))
 pss_nil)
 (pss_one (ps_ret (pe_and (pe_chain op_le op_le pe_int (pe_callB call_len_str (by rfl) T.n_len PySem.boot_len (pa_cons (pv 0) pa_nil)) (pe_glob (v := .int 8) (by rfl) hG_LONGEST_NAME ⟨_, rfl⟩)) (pe_one (pe_callB (cr_all rfl) (by rfl) T.n_all (by decide +kernel) (pa_cons (pe_lc (own := [("sign", 1)]) (g := gName 1) (tt := tYes) (by rfl) sc_is_name.nd (pi_str (pv 0)) (blkOk_by (N := ["name", "sign"]) (sc := defScope s_is_name) (by decide +kernel)) (fun _ _ _ _ _ => pg_name (i := 1) sc_is_name.nd rfl (Or.inl rfl)) (fun _ _ _ _ _ => pts_nil) (fun _ _ _ _ _ => (pe_cmpR op_in_sign (pv 1) (pe_glob (v := .str "abcdefghijklmnopqrstuvwxyz0123456789") (by rfl) hG_SIGNS ⟨_, rfl⟩) rfl))) pa_nil)))))), ?_⟩
    have k0 := k H (Same.refl H)
    cases v with
    | int n =>
      exact ⟨_, rfl, _, _, _, _, false, rfl, ClsV.ty _, .base (.int _), kit_ty (by decide +kernel), _, rfl, iteT k0⟩
    | bl n =>
      exact ⟨_, rfl, _, _, _, _, false, rfl, ClsV.ty _, .base (.bl _), kit_ty (by decide +kernel), _, rfl, iteT k0⟩
    | non =>
      exact ⟨_, rfl, _, _, _, _, false, rfl, ClsV.ty _, .base .non, kit_ty (by decide +kernel), _, rfl, iteT k0⟩
    | str z =>
      have hzl := hz z rfl
      have hzs : z.length ≤ sizeLine := Nat.le_trans hzl (Nat.le_of_lt (small1000 (by decide)))
      refine ⟨_, rfl, _, _, _, _, true, rfl, ClsV.ty _, .base (.str _), kit_ty (by decide +kernel), _, rfl, iteF ?_⟩
      refine ⟨_, rfl, z, rfl, hzs, _, _, rfl, rfl, _, rfl, ?_⟩
      by_cases c1 : 1 ≤ z.length
      · rw [decide_eq_true (by omega : (1 : Int) ≤ ((z.length : Nat) : Int))]
        refine iteT ⟨_, _, rfl, rfl, _, rfl, ?_⟩
        by_cases c2 : z.length ≤ 8
        · rw [decide_eq_true (by omega : ((z.length : Nat) : Int) ≤ 8)]
          refine iteT ⟨_, rfl, z, rfl, fun D nD => lc_it (walk_str (z := z)) (fun i H' => H' D = some (.lst (((TL.tl z).take i).map fun c => V.bl (decide (c ∈ TL.tl SIG)))) ∧ Same H H') ⟨upd_same, same_new (Same.refl H) nD⟩ (fun _ _ _ _ => trivial) ?_ ?_⟩
          · rintro i x H1 H' hi ⟨hD', sm⟩ ⟨rfl, c', hc', rfl⟩
            refine ⟨rfl, _, rfl, c', _, rfl, rfl, _, hD', small1000 (by rw [List.length_map, List.length_take]; rw [TL.len_tl] at hzl; omega), ?_, fun b o q => ?_⟩
            · rw [upd_same]
              have hc2 : (TL.tl z)[i]? = some c' := by rw [← Array.getElem?_toList] at hc'; exact hc'
              rw [List.take_add_one, hc2, List.map_append]
              rfl
            · rw [upd_ne (ne_of_none q nD)]
              exact sm b o q
          · rintro H' ⟨hD', sm⟩
            have hn : z.cps.size = (TL.tl z).length := by simp [TL.tl]
            rw [hn, List.take_length] at hD'
            refine ⟨D, (TL.tl z).map fun c => decide (c ∈ TL.tl SIG), rfl, SqL.of (by rw [hD', List.map_map] <;> rfl), ?_⟩
            have e0 : nameV (.str z) = ((TL.tl z).map fun c => decide (c ∈ TL.tl SIG)).all id := by
              show (decide (1 ≤ z.length) && (decide (z.length ≤ 8) && _)) = _
              rw [decide_eq_true c1, decide_eq_true c2, List.all_map]; rfl
            have q := k H' sm
            rw [e0] at q
            exact q
        · rw [decide_eq_false (by omega : ¬ ((z.length : Nat) : Int) ≤ 8)]
          have e0 : nameV (.str z) = false := by
            show (decide (1 ≤ z.length) && (decide (z.length ≤ 8) && _)) = _
            rw [decide_eq_false c2, Bool.false_and, Bool.and_false]
          rw [e0] at k0
          exact iteF k0
      · rw [decide_eq_false (by omega : ¬ (1 : Int) ≤ ((z.length : Nat) : Int))]
        have e0 : nameV (.str z) = false := by
          show (decide (1 ≤ z.length) && _) = _
          rw [decide_eq_false c1, Bool.false_and]
        rw [e0] at k0
        exact iteF ⟨_, rfl, iteF k0⟩
    | _ => cases fv
end
end K27

namespace K27
open PySem L2 SI CM BK OWN MIR StX TX TL
section
variable {w : World} {K : PySem.W.Frag} {mg : Str → Option Value} {base : Heap} (T : Txt w K mg)
def stepB : List V → Bool
  | [k, s] => inV k [.str "commit", .str "abort"] && stampV s 1
  | [k, s, n] => inV k [.str "read", .str "write"] && (stampV s 1 && nameV n)
  | _ => false
/-- a part of a run: whether it is a step -/
def PartAt (H : Hp) (v : V) (b : Bool) : Prop := (flat4 v = true ∧ b = false) ∨ ∃ a xs, v = .ref a ∧ H a = some (.tup xs) ∧ (∀ x ∈ xs, flat4 x = true ∧ ∀ z, x = .str z → z.length ≤ 900) ∧ xs.length ≤ 100 ∧ b = stepB xs
theorem PartAt.same {H H' : Hp} {v : V} {b : Bool} (s : Same H H') : PartAt H v b → PartAt H' v b
  | .inl h => .inl h
  | .inr ⟨a, xs, h1, h2, h3⟩ => .inr ⟨a, xs, h1, s _ _ h2, h3⟩
def spIsStep : Sp := fun vs H Q _ => ∃ v b, vs = [v] ∧ PartAt H v b ∧ ∀ H', Same H H' → Q (.bl b) H'
theorem ok_is_step : FnOk PP w K mg base CX0 2 T.f_is_step T.d_is_step ["part"] spIsStep := by
  refine T.F_is_step.ok sc_is_step (fun vs H Q E h => ?_) (fun cdv A outer s H vs Q E hr h => ?_)
  · obtain ⟨v, b, rfl, _⟩ := h
    rfl
  · obtain ⟨v, b, rfl, hp, k⟩ := h
    obtain ⟨g_kbIS, hkbIS⟩ := kbIS T
    refine ⟨_, pss_cons (ps_if (pt_not (pt_val (pe_callB call_isi (by rfl) T.n_isinstance (by decide +kernel) (pa_cons (pv 0) (pa_cons (pe_bltn (v := .ty "tuple") (by rfl) T.n_tuple (by decide +kernel) rfl) pa_nil)))))
 (pss_one (ps_ret pe_bl))
 pss_nil)
 (pss_cons (ps_if (pt_cmpR op_eq (pe_callB call_len_seq (by rfl) T.n_len PySem.boot_len (pa_cons (pv 0) pa_nil)) pe_int (nomark _))
 (pss_one (ps_ret (pe_and (pe_cmpR op_in_seq (pe_ix ix_tup (pv 0) pe_int (fun _ _ => rfl)) (pe_tup (pa_cons pe_str (pa_cons pe_str pa_nil))) rfl) (pe_one (pe_callN (n := 1) (ok_is T) (hr.mono (by decide)) (by rfl) T.g_is_stamp T.F_is_stamp.kp hkbIS pass0 (pa_cons (pe_ix ix_tup (pv 0) pe_int (fun _ _ => rfl)) pa_nil) (pk_cons pe_int pk_nil))))))
 pss_nil)
 (pss_cons (ps_if (pt_cmpR op_eq (pe_callB call_len_seq (by rfl) T.n_len PySem.boot_len (pa_cons (pv 0) pa_nil)) pe_int (nomark _))
 (pss_one (ps_ret (pe_and (pe_cmpR op_in_seq (pe_ix ix_tup (pv 0) pe_int (fun _ _ => rfl)) (pe_tup (pa_cons pe_str (pa_cons pe_str pa_nil))) rfl) (pe_and (pe_callN (n := 1) (ok_is T) (hr.mono (by decide)) (by rfl) T.g_is_stamp T.F_is_stamp.kp hkbIS pass0 (pa_cons (pe_ix ix_tup (pv 0) pe_int (fun _ _ => rfl)) pa_nil) (pk_cons pe_int pk_nil)) (pe_one (pe_call (ok_is_name T) (hr.mono (by decide)) (by rfl) T.g_is_name T.F_is_name.kp (b_is_name T) .nil pass0 (pa_cons (pe_ix ix_tup (pv 0) pe_int (fun _ _ => rfl)) pa_nil)))))))
 pss_nil)
 (pss_one (ps_ret pe_bl)))), ?_⟩
    have k0 := k H (Same.refl H)
    have two : 2 ≤ sizeLine := by decide
    rcases hp with ⟨fv, rfl⟩ | ⟨a, xs, rfl, ha, hf, hl, rfl⟩
    · cases v with
      | int n => exact ⟨_, rfl, _, _, _, _, false, rfl, ClsV.ty _, .base (.int _), kit_ty (by decide +kernel), _, rfl, iteT k0⟩
      | bl n => exact ⟨_, rfl, _, _, _, _, false, rfl, ClsV.ty _, .base (.bl _), kit_ty (by decide +kernel), _, rfl, iteT k0⟩
      | non => exact ⟨_, rfl, _, _, _, _, false, rfl, ClsV.ty _, .base .non, kit_ty (by decide +kernel), _, rfl, iteT k0⟩
      | str n => exact ⟨_, rfl, _, _, _, _, false, rfl, ClsV.ty _, .base (.str _), kit_ty (by decide +kernel), _, rfl, iteT k0⟩
      | _ => cases fv
    · refine ⟨_, rfl, _, _, _, _, true, rfl, ClsV.ty _, .base (.tup ha), kit_ty (by decide +kernel), _, rfl, iteF ?_⟩
      refine ⟨_, rfl, a, xs, rfl, .inr (SqT.of ha), rfl, _, rfl, ?_⟩
      have di : ∀ i j : Int, decide (V.int i = V.int j) = decide (i = j) := fun i j => decide_eq_decide.mpr ⟨V.int.inj, congrArg _⟩
      rw [di]
      by_cases c2 : xs.length = 2
      · obtain ⟨x, y, rfl⟩ : ∃ x y, xs = [x, y] := by
          match xs, c2 with
          | [x, y], _ => exact ⟨x, y, rfl⟩
        rw [decide_eq_true (by rfl)]
        refine iteT ⟨_, rfl, a, _, _, x, rfl, rfl, SqT.of ha, rfl, two, fun t nt => ⟨t, _, rfl, .inr (SqT.of upd_same), flat4_V (hf x (by simp)).1, rfl, _, rfl, ?_⟩⟩
        have s1 := same_new (o := .tup [.str "commit", .str "abort"]) (Same.refl H) nt
        have k1 := k _ s1
        cases c : inV x [V.str "commit", V.str "abort"] with
        | true =>
          have e0 : stepB [x, y] = stampV y 1 := by show (inV x [V.str "commit", V.str "abort"] && _) = _; rw [c, Bool.true_and]
          rw [e0] at k1
          exact iteT ⟨_, rfl, a, _, _, y, rfl, rfl, SqT.of (s1 _ _ ha), rfl, rfl, rfl, y, 1, rfl, (hf y (by simp)).1, k1⟩
        | false =>
          have e0 : stepB [x, y] = false := by show (inV x [V.str "commit", V.str "abort"] && _) = _; rw [c, Bool.false_and]
          rw [e0] at k1
          exact iteF k1
      · rw [decide_eq_false (by omega : ¬ ((xs.length : Nat) : Int) = 2)]
        refine iteF ⟨_, rfl, a, xs, rfl, .inr (SqT.of ha), rfl, _, rfl, ?_⟩
        rw [di]
        by_cases c3 : xs.length = 3
        · obtain ⟨x, y, n, rfl⟩ : ∃ x y n, xs = [x, y, n] := by
            match xs, c3 with
            | [x, y, n], _ => exact ⟨x, y, n, rfl⟩
          rw [decide_eq_true (by rfl)]
          refine iteT ⟨_, rfl, a, _, _, x, rfl, rfl, SqT.of ha, rfl, two, fun t nt => ⟨t, _, rfl, .inr (SqT.of upd_same), flat4_V (hf x (by simp)).1, rfl, _, rfl, ?_⟩⟩
          have s1 := same_new (o := .tup [.str "read", .str "write"]) (Same.refl H) nt
          have k1 := k _ s1
          cases c : inV x [V.str "read", V.str "write"] with
          | false =>
            have e0 : stepB [x, y, n] = false := by show (inV x [V.str "read", V.str "write"] && _) = _; rw [c, Bool.false_and]
            rw [e0] at k1
            exact iteF k1
          | true =>
            have e0 : stepB [x, y, n] = (stampV y 1 && nameV n) := by show (inV x [V.str "read", V.str "write"] && _) = _; rw [c, Bool.true_and]
            refine iteT ⟨_, rfl, a, _, _, y, rfl, rfl, SqT.of (s1 _ _ ha), rfl, rfl, rfl, y, 1, rfl, (hf y (by simp)).1, _, rfl, ?_⟩
            cases c1 : stampV y 1 with
            | false =>
              rw [e0, c1, Bool.false_and] at k1
              exact iteF k1
            | true =>
              rw [c1, Bool.true_and] at e0
              exact iteT ⟨_, rfl, a, _, _, n, rfl, rfl, SqT.of (s1 _ _ ha), rfl, n, rfl, (hf n (by simp)).1, (hf n (by simp)).2, fun H' s2 => by have := k H' (s1.trans s2); rw [e0] at this; exact this⟩
        · rw [decide_eq_false (by omega : ¬ ((xs.length : Nat) : Int) = 3)]
          have e0 : stepB xs = false := by
            match xs, c2, c3 with
            | [], _, _ => rfl
            | [_], _, _ => rfl
            | [_, _], c, _ => exact absurd rfl c
            | [_, _, _], _, c => exact absurd rfl c
            | _ :: _ :: _ :: _ :: _, _, _ => rfl
          rw [e0] at k0
          exact iteF k0
end
end K27

namespace K27
open PySem L2 SI CM BK OWN MIR StX TX TL
section
variable {w : World} {K : PySem.W.Frag} {mg : Str → Option Value} {base : Heap} (T : Txt w K mg)
def spE1i (C : Addr) (f : Str) : Sp := fun vs H Q _ => ∃ (a : Addr) (i : Nat), vs = [.ref a, .int (i : Int)] ∧ H a = some (exo a C none) ∧ i < 1000 ∧ ∀ dx, H dx = none → dx ≠ a → Q .non (upd (upd H dx (exd dx [(f, .int (i : Int))])) a (exo a C (some dx)))
theorem num_short : ∀ i, i < 1000 → (Str.ofString (toString ((i : Nat) : Int))).length ≤ 50 ∧ ((i : Nat) : Int).natAbs.log2 < 1920 := by
  have h : ((List.range 1000).all fun i => decide ((Str.ofString (toString ((i : Nat) : Int))).length ≤ 50 ∧ ((i : Nat) : Int).natAbs.log2 < 1920)) = true := by decide +kernel
  intro i hi
  exact of_decide_eq_true (List.all_eq_true.mp h i (List.mem_range.mpr hi))
theorem str_len_app (a b : Str) : (a ++ b).length = a.length + b.length := by
  show (a.cps ++ b.cps).size = _
  exact Array.size_append
theorem ok_BadStep : FnOk PP w K mg base CX0 1 T.f_BadStep_init T.d_BadStep_init ["self", "index"] (spE1i T.c_BadStep "index") := by
  refine ok_sup (N := ["self", "index", "__class__"]) T.S_BadStep_init sc_BadStep_init rfl (show (defScope s_BadStep_init).names.lookup ("super" : Str) = some .globalImplicit by decide +kernel) rfl rfl (fun vs H Q E h => ?_) (fun A outer s H vs Q E hr h => ?_)
  · obtain ⟨a, i, rfl, _⟩ := h
    rfl
  · obtain ⟨a, i, rfl, ha, hi, k⟩ := h
    obtain ⟨n1, n2⟩ := num_short i hi
    refine ⟨a, _, _, _, pa_cons (pe_joined (.cons pe_str (.cons (pe_fmt (pv 1)) .nil))) pa_nil, pss_one (ps_ost (pv 0) (pv 1)), rfl, fun M B u Q' E' s' z => PySem.Calls.evalArgs_plain z, rfl, rfl, rfl, ha, ?_⟩
    refine ⟨_, rfl, (by decide +kernel : (Str.empty ++ Str.ofString "no step at index ").length ≤ sizeLine), _, rfl, .inr ⟨i, rfl, n2, _, rfl, ?_, by show 1 ≤ 1000; decide, ha, ?_⟩⟩
    · show (Str.empty ++ Str.ofString "no step at index " ++ Str.ofString (toString (i : Int))).length ≤ sizeLine
      rw [str_len_app]
      have h1 : (Str.empty ++ Str.ofString "no step at index ").length = 17 := by decide +kernel
      rw [h1]
      exact Nat.le_of_lt (small1000 (by omega))
    · exact ⟨_, rfl, _, rfl, _, _, rfl, T.oex_BadStep, T.na_BadStep_index, .inl ⟨ha, fun dx n ne => k dx n ne⟩⟩
theorem rz1i {C : Addr} {H : Hp} {i : Nat} {f : Str} {E : XK} (hi : i < 1000) (kF : ∀ d, H d = none → E (.ref C) (some d) (upd H d (.xd [(f, .int (i : Int))]))) :
    (1 : Nat) ≤ 1000 ∧ ∀ a, H a = none → spE1i C f ([V.ref a, .int (i : Int)] ++ []) (upd H a (exo a C none)) (fun x H1 => x = .non ∧ ∃ d fs, H1 a = some (exo a C (some d)) ∧ H1 d = some (exd d fs) ∧ H d = none ∧ E (.ref C) (some d) (upd (del H1 a) d (.xd fs))) E0 := by
  refine ⟨by decide, fun a ha => ⟨a, i, rfl, upd_same, hi, fun d hd hne => ⟨rfl, d, [(f, .int (i : Int))], upd_same, ?_, ?_, ?_⟩⟩⟩
  · rw [upd_ne hne, upd_same]
  · rw [upd_ne hne] at hd
    exact hd
  · rw [upd_ne hne] at hd
    have z := kF d hd
    rw [raise_heap ha]
    exact z
/-- the parts of a run -/
def PartsAt (H : Hp) : List V → List Bool → Prop := F2 (PartAt H)
def spCheckRun (K : PySem.W.Frag) (C : Addr) : Sp := fun vs H Q E => ∃ (a : Addr) (xs : List V) (bs : List Bool), vs = [.ref a] ∧ SqL K H a xs ∧ PartsAt H xs bs ∧ xs.length ≤ 900 ∧ ((∀ b ∈ bs, b = true) → ∀ H', Same H H' → Q .non H') ∧
  ∀ i, bs[i]? = some false → (∀ j, j < i → bs[j]? = some true) → ∀ H' x, Same H H' → H x = none → H' x = some (.xd [(("index" : Str), .int (i : Nat))]) → E (.ref C) (some x) H'
theorem ok_check_run : FnOk PP w K mg base (L2.CX PP w) 4 T.f_check_run T.d_check_run ["run"] (spCheckRun K T.c_BadStep) := by
  refine T.F_check_run.okX sc_check_run (fun vs H Q E h => ?_) (fun cdv A outer s H vs Q E hr h => ?_)
  · obtain ⟨a, xs, bs, rfl, _⟩ := h
    rfl
  · obtain ⟨a, xs, bs, rfl, hS, hP, hl, kT, kF⟩ := h
    refine ⟨_, pss_one (ps_for (passes_of rfl) rfl (pi_enum (by rfl) T.n_enumerate (pa_cons (pv 0) pa_nil)) (pg_tup rfl (pgs_cons (pg_name (i := 1) sc_check_run.nd rfl (.inl rfl)) (pgs_cons (pg_name (i := 2) sc_check_run.nd rfl (.inl rfl)) pgs_nil)))
 (pss_one (ps_if (pt_not (pt_val (pe_call (ok_is_step T) (hr.mono (by decide)) (by rfl) T.g_is_step T.F_is_step.kp (b_is_step T) .nil pass0 (pa_cons (pv 2) pa_nil))))
 (pss_one (ps_raise rfl (takes_of rfl rfl rfl rfl) (pmk_oex T.oex_BadStep T.i_BadStep_init T.t_BadStep_init (ok_BadStep T) (hr.mono (by decide)) (b_BadStep_init T) .nil pass0 (by rfl) T.g_BadStep (pa_cons (pv 1) pa_nil))))
 pss_nil))), ?_⟩
    refine ⟨_, rfl, a, xs, rfl, hS, for_it (walk_enum (xs := xs)) (fun i τ H' => ∃ v1 v2, τ = [some (.ref a), v1, v2] ∧ Same H H' ∧ ∀ j, j < i → bs[j]? = some true)
      ⟨none, none, rfl, Same.refl H, fun j hj => absurd hj (Nat.not_lt_zero _)⟩ (fun i τ H' _ ⟨_, _, _, sm, _⟩ => sm.seq hS) ?_ ?_⟩
    · rintro i x τ H1 H2 hi ⟨v1, v2, rfl, sm, hb⟩ ⟨T', x1, x2, rfl, nT, rfl, e1, e2⟩
      cases e1
      obtain ⟨b, eb, hpb⟩ := hP.at e2
      have s2 := same_new (o := .tup [.int ((i : Nat) : Int), x2]) sm nT
      refine ⟨T', _, rfl, SqT.of upd_same, rfl, _, _, rfl, _, _, rfl, rfl, ?_⟩
      refine ⟨_, rfl, x2, b, rfl, hpb.same s2, fun H3 s3 => ⟨_, rfl, ?_⟩⟩
      cases b with
      | true =>
        refine iteF ⟨_, _, rfl, s2.trans s3, fun j hj => ?_⟩
        rcases Nat.lt_or_ge j i with h | h
        · exact hb j h
        · obtain rfl : j = i := by omega
          exact eb
      | false =>
        have s23 := s2.trans s3
        exact iteT ⟨_, rfl, rz1i (by omega) fun d hd => kF i eb hb _ d (same_new s23 hd) (s23.free hd) upd_same⟩
    · rintro τ H1 ⟨v1, v2, rfl, sm, hb⟩
      refine kT (fun b hbm => ?_) H1 sm
      obtain ⟨j, hj, e⟩ := List.mem_iff_getElem.mp hbm
      have := hb j (by rw [hP.len]; exact hj)
      rw [List.getElem?_eq_getElem hj, e] at this
      exact Option.some.inj this
end
end K27

namespace K27
open PySem L2 SI CM BK OWN MIR StX TX TL
section
variable {w : World} {K : PySem.W.Frag} {mg : Str → Option Value} {base : Heap} (T : Txt w K mg)
def nmOf : Stp → Str
  | .req _ _ n => n
  | _ => ""
abbrev usOf (xs : List Stp) : List Int := xs.map Stp.who
abbrev nsOf (xs : List Stp) : List Str := xs.map nmOf
def KdOk : Stp → Prop
  | .req k _ _ => k ∈ KINDS
  | _ => True
noncomputable def stN (B : Bkm) (xs : List Stp) : Nat → MIR.S
  | 0 => s0
  | i + 1 => match xs[i]? with
    | some x => (takeM B (stN B xs i) x (1 + (i : Nat))).1
    | none => stN B xs i
noncomputable def outN (B : Bkm) (xs : List Stp) (i : Nat) : Out := match xs[i]? with
  | some x => (takeM B (stN B xs i) x (1 + (i : Nat))).2
  | none => ⟨"", [], .non, []⟩
theorem stN_at {B : Bkm} {xs : List Stp} {i : Nat} {x : Stp} (h : xs[i]? = some x) : stN B xs (i + 1) = (takeM B (stN B xs i) x (1 + (i : Nat))).1 := by
  show (match xs[i]? with | some x => (takeM B (stN B xs i) x (1 + (i : Nat))).1 | none => stN B xs i) = _
  rw [h]
theorem outN_at {B : Bkm} {xs : List Stp} {i : Nat} {x : Stp} (h : xs[i]? = some x) : outN B xs i = (takeM B (stN B xs i) x (1 + (i : Nat))).2 := by
  unfold outN
  rw [h]
def RunAt (H : Hp) : List V → List Stp → Prop := F2 fun v x => ∃ q, v = .ref q ∧ StpAt H q x
theorem RunAt.same {H H' : Hp} (s : Same H H') {vs : List V} {xs : List Stp} (h : RunAt H vs xs) : RunAt H' vs xs := F2.mono (fun a b ⟨q, e, z⟩ => ⟨q, e, z.same s⟩) h
theorem PartsAt.same {H H' : Hp} (s : Same H H') {vs : List V} {bs : List Bool} (h : PartsAt H vs bs) : PartsAt H' vs bs := F2.mono (fun a b z => z.same s) h
/-- (state, outcome, state) of turn i -/
def TrAt (CS CI : Addr) (B : Bkm) (xs : List Stp) (H : Hp) (p : Addr) (i : Nat) : Prop := ∃ a b c, H p = some (.tup [.ref a, .ref b, .ref c]) ∧ StAt CS CI (usOf xs) (nsOf xs) H a (stN B xs i) ∧ OutAt H b (outN B xs i) ∧ StAt CS CI (usOf xs) (nsOf xs) H c (stN B xs (i + 1)) ∧ Srt (usOf xs) (outN B xs i)
theorem TrAt.same {CS CI : Addr} {B : Bkm} {xs : List Stp} {H H' : Hp} {p : Addr} {i : Nat} (h : TrAt CS CI B xs H p i) (s : Same H H') : TrAt CS CI B xs H' p i := by
  obtain ⟨a, b, c, h1, h2, h3, h4, h5⟩ := h
  exact ⟨a, b, c, s _ _ h1, h2.same s, h3.same s, h4.same s, h5⟩
/-- all that is no list stays -/
def SameK (H H' : Hp) : Prop := ∀ b o, (∀ xs, o ≠ .lst xs) → H b = some o → H' b = some o
theorem SameK.t {H H' : Hp} (s : SameK H H') : SameT H H' := fun b o st h => s b o (by rintro xs rfl; cases st) h
theorem SameK.chg {H : Hp} {p : Addr} {xs : List V} {o : HO} (h : H p = some (.lst xs)) : SameK H (upd H p o) := fun b x n z => by
  rw [upd_ne (fun q => by rw [q, h] at z; exact n xs (Option.some.inj z).symm)]
  exact z
theorem SameK.of {H H' : Hp} (s : Same H H') : SameK H H' := fun b o _ h => s b o h
theorem SameK.trans {H H' H'' : Hp} (s : SameK H H') (t : SameK H' H'') : SameK H H'' := fun b o n h => t b o n (s b o n h)
theorem StAt_K {CS CI : Addr} {U : List Int} {N : List Str} {H H' : Hp} {p : Addr} {σ : MIR.S} (h : StAt CS CI U N H p σ) (s : SameK H H') : StAt CS CI U N H' p σ := by
  obtain ⟨dx, ds, dv, db, h1, n1, n2, n3, D1, D2, D3⟩ := h.ex
  obtain ⟨sv, a1, a2, a3⟩ := D1.ex
  obtain ⟨ov, b1, b2, b3⟩ := D2.ex
  obtain ⟨bv, c1, c2, c3⟩ := D3.ex
  have ki : ∀ {b o}, (∀ xs, o ≠ .lst xs) → H b = some o → H' b = some o := fun {b o} n z => s b o n z
  refine ⟨dx, ds, dv, db, ki (by intro xs q; cases q) h1, n1, n2, n3, ⟨sv, ki (by intro xs q; cases q) a1, a2, store_congr a3 s.t fun _ => rfl⟩, ⟨ov, ki (by intro xs q; cases q) b1, b2, b3⟩, ⟨bv, ki (by intro xs q; cases q) c1, c2, fun k => ?_⟩⟩
  have z := c3 k
  cases k with
  | inr n => exact z
  | inl x =>
    cases e2 : valV bv (Sum.inl x) with
    | none => rw [e2] at z; exact z
    | some v =>
      rw [e2] at z
      obtain ⟨q, h3, h4, h5, h6, h7⟩ := z
      exact ⟨q, h3, h4, ki (by intro xs q; cases q) h5, h6, h7⟩
theorem TrAt_K {CS CI : Addr} {B : Bkm} {xs : List Stp} {H H' : Hp} {p : Addr} {i : Nat} (h : TrAt CS CI B xs H p i) (s : SameK H H') : TrAt CS CI B xs H' p i := by
  obtain ⟨a, b, c, h1, h2, h3, h4, h5⟩ := h
  exact ⟨a, b, c, s _ _ (by intro xs q; cases q) h1, StAt_K h2 s, h3.sameT s.t, StAt_K h4 s, h5⟩
def TracAt (CS CI : Addr) (B : Bkm) (xs : List Stp) (H : Hp) (p : Addr) (n : Nat) : Prop := ∃ ts : List Addr, H p = some (.lst (ts.map V.ref)) ∧ F2 (TrAt CS CI B xs H) ts (List.range n)
/-- a run is asked: its parts, and its steps where all are good -/
structure RunQ (K : PySem.W.Frag) (H : Hp) (a : Addr) (vs : List V) (bs : List Bool) (xs : List Stp) : Prop where
  seq : SqL K H a vs
  prt : PartsAt H vs bs
  le : vs.length ≤ 300
  run : (∀ b ∈ bs, b = true) → RunAt H vs xs ∧ ∀ x ∈ xs, KdOk x
theorem RunQ.same {K : PySem.W.Frag} {H H' : Hp} {a : Addr} {vs : List V} {bs : List Bool} {xs : List Stp} (h : RunQ K H a vs bs xs) (s : Same H H') : RunQ K H' a vs bs xs := ⟨s.seq h.seq, h.prt.same s, h.le, fun z => ⟨(h.run z).1.same s, (h.run z).2⟩⟩
def BadRun (C : Addr) (bs : List Bool) (H : Hp) (E : XK) : Prop := ∀ i, bs[i]? = some false → (∀ j, j < i → bs[j]? = some true) → ∀ H' x, Same H H' → H x = none → H' x = some (.xd [(("index" : Str), .int (i : Nat))]) → E (.ref C) (some x) H'
def spTraced (K : PySem.W.Frag) (CB CS CI CE : Addr) : Sp := fun vs H Q E => ∃ (b dxb d : Addr) (f : Str → Str) (e : Str) (k : Nat) (a : Addr) (ws : List V) (bs : List Bool) (xs : List Stp), vs = [.ref b, .ref a] ∧
  Bk CB H b dxb d f e (k : Int) ∧ (∀ x ∈ ENT, f x ∈ chs x) ∧ 1 ≤ k ∧ k ≤ 20 ∧ RunQ K H a ws bs xs ∧
  ((∀ b ∈ bs, b = true) → ∀ (H' : Hp) (p : Addr), Same H H' → H p = none → TracAt CS CI ⟨f, e, k⟩ xs H' p xs.length → Q (.ref p) H') ∧ BadRun CE bs H E
theorem ok_traced : FnOk PP w K mg base (L2.CX PP w) 11 T.f_traced T.d_traced ["book", "run"] (spTraced K T.c_Book T.c_State T.c_Item T.c_BadStep) := by
  refine T.F_traced.okX sc_traced (fun vs H Q E h => ?_) (fun cdv A outer s H vs Q E hr h => ?_)
  · obtain ⟨b, dxb, d, f, e, k, a, ws, bs, xs, rfl, _⟩ := h
    rfl
  · obtain ⟨b, dxb, d, f, e, k, a, ws, bs, xs, rfl, B, hf, k1, k20, R, kT, kF⟩ := h
    refine ⟨_, pss_cons (ps_expr (pe_call (ok_check_run T) (hr.mono (by decide)) (by rfl) T.g_check_run T.F_check_run.kp (b_check_run T) .nil (passes_call (takes_of rfl rfl rfl rfl) fun _ _ _ _ h => h) (pa_cons (pv 1) pa_nil)))
 (pss_cons (ps_set (i := 2) sc_traced.nd rfl (.inl rfl) (pe_call0 (ok_first T) (hr.mono (by decide)) (by rfl) T.g_first_state T.F_first_state.kp (b_first_state T) .nil pass0))
 (pss_cons (ps_set (i := 3) sc_traced.nd rfl (.inl rfl) (pe_lst pa_nil))
 (pss_cons (ps_for (passes_of rfl) rfl (EN.pi_enumK (by rfl) T.n_enumerate (pa_cons (pv 1) pa_nil) (pk_cons pe_int pk_nil)) (pg_tup rfl (pgs_cons (pg_name (i := 4) sc_traced.nd rfl (.inl rfl)) (pgs_cons (pg_name (i := 5) sc_traced.nd rfl (.inl rfl)) pgs_nil)))
 (pss_cons (ps_asg (pe_call (ok_taken T) (hr.mono (by decide)) (by rfl) T.g_taken T.F_taken.kp (b_taken T) .nil pass0 (pa_cons (pv 0) (pa_cons (pv 2) (pa_cons (pv 5) (pa_cons (pv 4) pa_nil))))) (pg_tup rfl (pgs_cons (pg_name (i := 6) sc_traced.nd rfl (.inl rfl)) (pgs_cons (pg_name (i := 7) sc_traced.nd rfl (.inl rfl)) pgs_nil))))
 (pss_cons (ps_expr (pe_bm PySem.F.plainAttrs_list PySem.F.slot_list_append PySem.F.type_list_append mt_append (pv 3) (pa_cons (pe_tup (pa_cons (pv 2) (pa_cons (pv 7) (pa_cons (pv 6) pa_nil)))) pa_nil)))
 (pss_one (ps_set (i := 2) sc_traced.nd rfl (.inl rfl) (pv 6))))))
 (pss_one (ps_ret (pv 3)))))), ?_⟩
    have three : 3 ≤ sizeLine := by decide
    refine ⟨_, rfl, a, ws, bs, rfl, R.seq, R.prt, by have := R.le; omega, fun hall H1 s1 => ?_, fun i e1 e2 H' x sm nx hx => kF i e1 e2 H' x sm nx hx⟩
    obtain ⟨hrun, hkd⟩ := R.run hall
    have hlen := hrun.len
    refine ⟨rfl, fun H2 p0 s2 np0 hst0 => ?_⟩
    refine ⟨Nat.zero_le _, fun D nD => ?_⟩
    have s02 := s1.trans s2
    have s03 := same_new (o := .lst []) s02 nD
    have hD0 : (upd H2 D (.lst [])) D = some (.lst []) := upd_same
    have hst1 : StAt T.c_State T.c_Item (usOf xs) (nsOf xs) (upd H2 D (.lst [])) p0 (stN ⟨f, e, k⟩ xs 0) := (hst0 _ _).same (same_new (Same.refl H2) nD)
    have fD : H D = none := s02.free nD
    generalize upd H2 D (.lst []) = H3 at s03 hD0 hst1
    refine ⟨_, rfl, a, ws, 1, rfl, rfl, by decide, by decide, s03.seq R.seq, for_it (EN.walk_enumC (xs := ws)) (fun i τ H' => ∃ (p : Addr) (v4 v5 v6 v7 : Option V) (ts : List Addr), τ = [some (.ref b), some (.ref a), some (.ref p), some (.ref D), v4, v5, v6, v7] ∧ Same H H' ∧ H' D = some (.lst (ts.map V.ref)) ∧ F2 (TrAt T.c_State T.c_Item ⟨f, e, k⟩ xs H') ts (List.range i) ∧ StAt T.c_State T.c_Item (usOf xs) (nsOf xs) H' p (stN ⟨f, e, k⟩ xs i))
      ⟨p0, none, none, none, none, [], rfl, s03, hD0, .nil, hst1⟩ (fun i τ H' _ ⟨_, _, _, _, _, _, _, sm, _⟩ => sm.seq R.seq) ?_ ?_⟩
    · rintro i x τ H4 H5 hi ⟨p, v4, v5, v6, v7, ts, rfl, sm, hD, hts, hst⟩ ⟨T', x1, x2, rfl, nT, rfl, e1, e2⟩
      cases e1
      obtain ⟨y, ey, q, rfl, hq⟩ := hrun.at e2
      have ym : y ∈ xs := List.mem_of_getElem? ey
      have s5 := same_new (o := .tup [.int (1 + ((i : Nat) : Int)), .ref q]) (Same.refl H4) nT
      have hT5 : (upd H4 T' (.tup [.int (1 + ((i : Nat) : Int)), .ref q])) T' = some (.tup [.int (1 + ((i : Nat) : Int)), .ref q]) := upd_same
      generalize upd H4 T' (.tup [.int (1 + ((i : Nat) : Int)), .ref q]) = H5 at s5 hT5
      have sm5 := sm.trans s5
      have hok : StpOk (usOf xs) (nsOf xs) (.int (1 + ((i : Nat) : Int))) (1 + ((i : Nat) : Int)) y := by
        have h1 : y.who ∈ usOf xs := List.mem_map.mpr ⟨y, ym, rfl⟩
        have h2 : nmOf y ∈ nsOf xs := List.mem_map.mpr ⟨y, ym, rfl⟩
        have h3 := hkd y ym
        cases y with
        | req kd s n => exact ⟨h1, h2, h3, fun _ => rfl⟩
        | com s => exact h1
        | abo s => exact h1
      have l1 : (usOf xs).length ≤ 400 := by rw [List.length_map, ← hlen]; have := R.le; omega
      have l2 : (nsOf xs).length ≤ 400 := by rw [List.length_map, ← hlen]; have := R.le; omega
      refine ⟨T', _, rfl, SqT.of hT5, rfl, _, _, rfl, _, _, rfl, rfl, ?_⟩
      refine ⟨_, rfl, _, rfl, _, rfl, _, rfl, b, dxb, d, f, e, k, p, q, _, 1 + ((i : Nat) : Int), y, usOf xs, nsOf xs, stN ⟨f, e, k⟩ xs i, rfl, B.same sm5, hf, k1, k20, hq.same sm5, hok, hst.same s5, l1, l2, fun H6 r s6 ⟨a2, b2, hr2, hst2, hout⟩ hsrt => ?_⟩
      refine ⟨r, _, rfl, SqT.of hr2, rfl, _, _, rfl, _, _, rfl, rfl, ?_⟩
      have s56 := s5.trans s6
      refine ⟨_, rfl, .inl ⟨rfl, _, SqL.of (s56 _ _ hD)⟩, _, rfl, _, rfl, _, rfl, three, fun u nu => ?_⟩
      have s7 := same_new (o := .tup [.ref p, .ref b2, .ref a2]) (Same.refl H6) nu
      have hu : (upd H6 u (.tup [.ref p, .ref b2, .ref a2])) u = some (.tup [.ref p, .ref b2, .ref a2]) := upd_same
      generalize upd H6 u (.tup [.ref p, .ref b2, .ref a2]) = H7 at s7 hu
      have s47 := s56.trans s7
      have hD7 := s47 _ _ hD
      have len_ts : ts.length = i := by rw [hts.len, List.length_range]
      refine ⟨_, _, _, rfl, rfl, hD7, small1000 (by rw [List.length_map, len_ts]; have := R.le; omega), _, rfl, ?_⟩
      have t8 : SameK H7 (upd H7 D (.lst (ts.map V.ref ++ [V.ref u]))) := SameK.chg hD7
      have s8 : Same H (upd H7 D (.lst (ts.map V.ref ++ [V.ref u]))) := fun x o z => by rw [upd_ne (ne_of_none z fD)]; exact (sm.trans s47) x o z
      have est := stN_at (B := ⟨f, e, k⟩) ey
      have eou := outN_at (B := ⟨f, e, k⟩) ey
      rw [← est] at hst2
      rw [← eou] at hout hsrt
      refine ⟨a2, _, _, _, _, ts ++ [u], rfl, s8, by rw [upd_same, List.map_append]; rfl, ?_, StAt_K (hst2.same s7) t8⟩
      rw [List.range_succ]
      refine (hts.mono fun x j hx => TrAt_K (hx.same s47) t8).snoc (TrAt_K ⟨p, b2, a2, hu, hst.same s47, hout.same s7, hst2.same s7, hsrt⟩ t8)
    · rintro τ H4 ⟨p, v4, v5, v6, v7, ts, rfl, sm, hD, hts, hst⟩
      rw [hlen] at hts
      exact ⟨_, rfl, kT hall H4 D sm fD ⟨ts, hD, hts⟩⟩
end
end K27

namespace K27
open PySem L2 SI CM BK OWN MIR StX TX TL
section
variable {w : World} {K : PySem.W.Frag} {mg : Str → Option Value} {base : Heap} (T : Txt w K mg)
abbrev VN (m : Nat) : V := .int (m : Int)
/-- ascending marks -/
def MarksOk (ms : List Nat) : Prop := ms.Pairwise (· < ·) ∧ ∀ m ∈ ms, 1 ≤ m ∧ m ≤ 6 * 10 ^ 28
def spMarks : Sp := fun vs H Q _ => ∃ (c : Int) (n : Nat), vs = [.int c, .int (n : Int)] ∧ n ≤ 6 ∧
  ∀ (H' : Hp) (p : Addr) (ms : List Nat), Same H H' → H p = none → H' p = some (.lst (ms.map VN)) → ms.length = n → MarksOk ms → Q (.ref p) H'
def gaps : List Nat := [1, 1, 2, 7, 93, 10 ^ 12, 10 ^ 28]
theorem gap_in {g : Nat} (h : g ∈ gaps) : 1 ≤ g ∧ g ≤ 10 ^ 28 := by
  simp only [gaps, List.mem_cons, List.not_mem_nil, or_false] at h
  rcases h with rfl | rfl | rfl | rfl | rfl | rfl | rfl
  all_goals exact ⟨by decide, by decide⟩
theorem sig_len : (TL.tl SIG).length = 36 := by decide +kernel
theorem join_ones : ∀ cs : List Nat, joinL [] (cs.map fun c => [c]) = cs
  | [] => rfl
  | [c] => rfl
  | c :: d :: r => by
    have ih := join_ones (d :: r)
    show [c] ++ ([] ++ joinL [] ((d :: r).map fun c => [c])) = c :: d :: r
    rw [ih]; rfl
/-- a name of an item -/
def NmOk (z : Str) : Prop := 1 ≤ z.length ∧ z.length ≤ 8 ∧ ∀ c ∈ TL.tl z, c ∈ TL.tl SIG
theorem NmOk.name {z : Str} (h : NmOk z) : nameV (.str z) = true := by
  show (decide (1 ≤ z.length) && (decide (z.length ≤ 8) && (TL.tl z).all fun c => decide (c ∈ TL.tl SIG))) = true
  rw [decide_eq_true h.1, decide_eq_true h.2.1, List.all_eq_true.mpr fun c hc => decide_eq_true (h.2.2 c hc)]
  rfl
def spNames : Sp := fun vs H Q _ => ∃ c : Int, vs = [.int c] ∧ ∀ (H' : Hp) (p : Addr) (a b : Str), Same H H' → H p = none → H' p = some (.lst [.str a, .str b]) → NmOk a → NmOk b → a ≠ b → Q (.ref p) H'
def sgA (d : Int) : Nat := (atI (TL.tl SIG) d).getD 0
def sgS (L : List Int) : List Str := L.map fun d => (⟨#[sgA d]⟩ : Str)
def nmA (c : Int) : Str := Txt.join (Str.ofString "") (sgS ((rowF c 9 36).take (1 + (c % 7).toNat)))
def nmB (c : Int) : Str := nmA c ++ (⟨#[sgA ((rowF c 9 36).getD 8 0)]⟩ : Str)
def spNamesD : Sp := fun vs H Q _ => ∃ c : Int, vs = [.int c] ∧ ∀ (H' : Hp) (p : Addr), Same H H' → H p = none → H' p = some (.lst [.str (nmA c), .str (nmB c)]) → NmOk (nmA c) → NmOk (nmB c) → nmA c ≠ nmB c → Q (.ref p) H'
def spOne : Sp := fun vs H Q _ => ∃ c k b : Int, vs = [.int c, .int k, .int b] ∧ 0 < b ∧ b < 1000 ∧ ∀ H' d, Same H H' → 0 ≤ d → d < b → Q (.int d) H'
abbrev KL8 : List Str := ["read", "write", "commit", "write", "read", "write", "read", "abort"]
abbrev KL9 : List Str := ["write", "read", "commit", "read", "write", "read", "write", "commit"]
abbrev KL : List Str := KL8 ++ KL9
/-- a step among these marks and names -/
def XIn (ms : List Nat) (nl : List Str) : Stp → Prop
  | .req k s n => k ∈ KINDS ∧ (∃ m ∈ ms, s = (m : Int)) ∧ n ∈ nl
  | .com s => ∃ m ∈ ms, s = (m : Int)
  | .abo s => ∃ m ∈ ms, s = (m : Int)
def StpsAt (H : Hp) : List V → List Stp → Prop := F2 fun v x => ∃ q, v = .ref q ∧ StpAt H q x
/-- a drawn run -/
structure RunIs (H : Hp) (p : Addr) (ws : List V) (xs : List Stp) (ms : List Nat) (nl : List Str) : Prop where
  at_ : H p = some (.lst ws)
  run : RunAt H ws xs
  ins : ∀ x ∈ xs, XIn ms nl x
  mks : MarksOk ms
  nms : ∀ n ∈ nl, NmOk n
theorem RunIs.same {H H' : Hp} {p : Addr} {ws : List V} {xs : List Stp} {ms : List Nat} {nl : List Str} (h : RunIs H p ws xs ms nl) (s : Same H H') : RunIs H' p ws xs ms nl := ⟨s _ _ h.at_, h.run.same s, h.ins, h.mks, h.nms⟩
theorem RunAt_T {H H' : Hp} (s : SameT H H') {vs : List V} {xs : List Stp} (h : RunAt H vs xs) : RunAt H' vs xs := F2.mono (fun a b ⟨q, e, z⟩ => ⟨q, e, by cases b <;> exact s _ _ trivial z⟩) h
theorem at_mod {α : Type} (g : α → V) {L : List α} (h : 0 < L.length) (x : Int) : ∃ v, v ∈ L ∧ atI (L.map g) (x % (((L.map g).length : Nat) : Int)) = some (g v) := by
  have p : (0 : Int) < (((L.map g).length : Nat) : Int) := by rw [List.length_map]; omega
  have m0 := Int.emod_nonneg x (Int.ne_of_gt p)
  have m1 := Int.emod_lt_of_pos x p
  obtain ⟨j, hj⟩ := Int.eq_ofNat_of_zero_le m0
  have hj2 : j < L.length := by rw [hj, List.length_map] at m1; omega
  exact ⟨L[j], List.getElem_mem hj2, by rw [hj]; exact atI_nat (by rw [List.getElem?_map, List.getElem?_eq_getElem hj2]; rfl)⟩
def spLSteps (K : PySem.W.Frag) : Sp := fun vs H Q _ => ∃ (a b c : Addr) (ds : List Int) (ms : List Nat) (nl : List Str), vs = [.ref a, .ref b, .ref c] ∧ H a = some (.lst (ds.map V.int)) ∧ H b = some (.lst (ms.map VN)) ∧ H c = some (.lst (nl.map V.str)) ∧ ds.length ≤ 300 ∧ 0 < ms.length ∧ ms.length ≤ 6 ∧ 0 < nl.length ∧ nl.length ≤ 2 ∧ MarksOk ms ∧ (∀ n ∈ nl, NmOk n) ∧
  ∀ (H' : Hp) (p : Addr) (ws : List V) (xs : List Stp), Same H H' → H p = none → RunIs H' p ws xs ms nl → xs.length = ds.length → Q (.ref p) H'
def spRun (K : PySem.W.Frag) : Sp := fun vs H Q _ => ∃ (a : Addr) (ns : List Int) (at_ : Nat), vs = [.ref a, .int (at_ : Int)] ∧ SqL K H a (ns.map V.int) ∧ ns.length ≤ 63 ∧ at_ ≤ 50 ∧
  ∀ (H' : Hp) (p : Addr) (ws : List V) (xs : List Stp) (ms : List Nat) (nl : List Str), Same H H' → H p = none → RunIs H' p ws xs ms nl → xs.length ≤ 100 → ms.length ≤ 6 → nl.length ≤ 2 → Q (.ref p) H'
def spRunD (K : PySem.W.Frag) : Sp := fun vs H Q _ => ∃ (a : Addr) (ns : List Int) (at_ : Nat), vs = [.ref a, .int (at_ : Int)] ∧ SqL K H a (ns.map V.int) ∧ ns.length ≤ 63 ∧ at_ ≤ 50 ∧
  ∀ (H' : Hp) (p : Addr) (ws : List V) (xs : List Stp) (ms : List Nat) (nl : List Str), Same H H' → H p = none → RunIs H' p ws xs ms nl → xs.length ≤ 100 → ms.length ≤ 6 → nl.length ≤ 2 → (∀ n ∈ nl, n = nmA (ns.getD at_ 0) ∨ n = nmB (ns.getD at_ 0)) → Q (.ref p) H'
end
end K27

namespace K27
open PySem L2 SI CM BK OWN MIR StX TX TL
section
variable {w : World} {K : PySem.W.Frag} {mg : Str → Option Value} {base : Heap} (T : Txt w K mg)
/-- what binds, as the law says it -/
theorem bind_none {s w : Int} {r an : Str} (e1 : an ≠ "open") : bindM r (placeM s w none) an = false := by
  unfold bindM
  rw [if_neg e1]
  have hs : placeM s w none ∈ (["free", "late"] : List Str) := by
    show (if w < s then ("free" : Str) else "late") ∈ _
    split <;> decide +kernel
  have : ∀ sp ∈ (["free", "late"] : List Str), (decide (sp = "below") || decide (sp = "above")) = false := by decide +kernel
  rw [this _ hs, Bool.and_false, Bool.and_false]
theorem bind_some {s w g : Int} {r an : Str} : bindM r (placeM s w (some g)) an = (decide (g ≠ s) && (decide (r = "after") && (decide (an = "open") || (decide (an = "skip") && decide (placeM s w (some g) ≠ "under"))))) := by
  unfold bindM
  by_cases c1 : g = s
  · have e1 : placeM s w (some g) = "own" := if_pos c1
    rw [e1, decide_eq_false (fun z : g ≠ s => z c1), Bool.false_and]
    by_cases c2 : an = "open"
    · rw [if_pos c2, decide_eq_false (by intro z; exact z rfl : ¬ (("own" : Str) ≠ "own")), Bool.and_false]
    · rw [if_neg c2, show (decide (("own" : Str) = "below") || decide (("own" : Str) = "above")) = false from by decide +kernel, Bool.and_false, Bool.and_false]
  · rw [decide_eq_true (c1 : g ≠ s), Bool.true_and]
    have e1 : placeM s w (some g) ∈ (["under", "below", "above"] : List Str) := by
      show (if g = s then ("own" : Str) else if s < w then "under" else if s < g then "below" else "above") ∈ _
      rw [if_neg c1]
      split
      · decide +kernel
      · split <;> decide +kernel
    generalize placeM s w (some g) = sp at e1
    have h2 : ∀ sp ∈ (["under", "below", "above"] : List Str), sp ≠ "own" ∧ (decide (sp = "below") || decide (sp = "above")) = decide (sp ≠ "under") := by decide +kernel
    obtain ⟨h3, h4⟩ := h2 sp e1
    by_cases c2 : an = "open"
    · rw [if_pos c2, decide_eq_true h3, decide_eq_true c2, Bool.true_or]
    · rw [if_neg c2, h4, decide_eq_false c2, Bool.false_or]
theorem ins_ex (x : Int) : ∀ M : List Int, M.Pairwise (· ≤ ·) → ∃ N : List Int, N.Perm (x :: M) ∧ N.Pairwise (· ≤ ·)
  | [], _ => ⟨[x], .refl _, List.pairwise_singleton _ _⟩
  | y :: M, h => by
    obtain ⟨h1, h2⟩ := List.pairwise_cons.mp h
    by_cases c : x ≤ y
    · exact ⟨x :: y :: M, .refl _, List.pairwise_cons.mpr ⟨fun z hz => by rcases List.mem_cons.mp hz with e | e; (· omega); (· have := h1 z e; omega), h⟩⟩
    · obtain ⟨N, p, q⟩ := ins_ex x M h2
      refine ⟨y :: N, (p.cons y).trans (List.Perm.swap x y M), List.pairwise_cons.mpr ⟨fun z hz => ?_, q⟩⟩
      rcases List.mem_cons.mp (p.mem_iff.mp hz) with e | e
      · omega
      · exact h1 z e
theorem sort_ex : ∀ L : List Int, ∃ M : List Int, M.Perm L ∧ M.Pairwise (· ≤ ·)
  | [] => ⟨[], .refl _, .nil⟩
  | x :: L => by
    obtain ⟨M, p, q⟩ := sort_ex L
    obtain ⟨N, p2, q2⟩ := ins_ex x M q
    exact ⟨N, p2.trans (p.cons x), q2⟩
/-- the fallen, in any order -/
structure FellL (σ : MIR.S) (s : Int) (U L : List Int) : Prop where
  nd : L.Nodup
  mem : ∀ t, t ∈ L ↔ Reach σ s t
  sub : ∀ t ∈ L, t ∈ U
theorem FellL.isF {σ : MIR.S} {s : Int} {U L : List Int} (h : FellL σ s U L) : IsF σ s (fal σ s) ∧ ∀ t, t ∈ fal σ s ↔ t ∈ L := by
  obtain ⟨M, p, q⟩ := sort_ex L
  obtain ⟨a, b⟩ := perm_asc p q h.nd
  have f : IsF σ s M := ⟨a, fun t => (b t).trans (h.mem t)⟩
  rw [fal_eq f]
  exact ⟨f, b⟩
theorem fal_isF {σ : MIR.S} {s : Int} {U : List Int} (un : U.Nodup) (hout : ∀ t, t ∉ U → σ.bd t = []) (hs : s ∈ U) : IsF σ s (fal σ s) ∧ ∀ t ∈ fal σ s, t ∈ U := by
  classical
  have sub : ∀ t, Reach σ s t → t ∈ U := fun t h => by
    cases h with
    | refl => exact hs
    | step r hu _ =>
      by_cases c : t ∈ U
      · exact c
      · rw [hout t c] at hu; cases hu
  have f : FellL σ s U (U.filter fun t => decide (Reach σ s t)) :=
    ⟨un.sublist List.filter_sublist, fun t => ⟨fun h => of_decide_eq_true (List.mem_filter.mp h).2, fun h => List.mem_filter.mpr ⟨sub t h, decide_eq_true h⟩⟩, fun t h => (List.mem_filter.mp h).1⟩
  exact ⟨f.isF.1, fun t h => sub t ((f.isF.1.2 t).mp h)⟩
theorem askR_met (B : Bkm) (σ : MIR.S) (kd : Str) (s : Int) (n : Str) (v : Int) (m m' : List Str) (an : Str) :
    (askR B σ kd s n v m an).1 = (askR B σ kd s n v m' an).1 ∧ (askR B σ kd s n v m an).2.word = (askR B σ kd s n v m' an).2.word ∧ (askR B σ kd s n v m an).2.val = (askR B σ kd s n v m' an).2.val ∧ (askR B σ kd s n v m an).2.fallen = (askR B σ kd s n v m' an).2.fallen ∧ (askR B σ kd s n v m an).2.met = m := by
  unfold askR
  split
  · exact ⟨rfl, rfl, rfl, rfl, rfl⟩
  split
  · exact ⟨rfl, rfl, rfl, rfl, rfl⟩
  split
  · exact ⟨rfl, rfl, rfl, rfl, rfl⟩
  split
  · exact ⟨rfl, rfl, rfl, rfl, rfl⟩
  split
  · exact ⟨rfl, rfl, rfl, rfl, rfl⟩
  · exact ⟨rfl, rfl, rfl, rfl, rfl⟩
theorem askR_word {B : Bkm} {σ : MIR.S} {kd : Str} {s : Int} {n : Str} {v : Int} {m : List Str} {an : Str} : (askR B σ kd s n v m an).2.word = "wound" ↔ an = "wound" := by
  unfold askR
  split
  · rename_i c; exact ⟨fun z => absurd z (show ("wait" : Str) ≠ "wound" from by decide +kernel), fun z => by rw [z] at c; exact absurd c (by decide +kernel)⟩
  split
  · rename_i c; exact ⟨fun _ => c, fun _ => rfl⟩
  rename_i nw
  split
  · exact ⟨fun z => absurd z (show ("abort" : Str) ≠ "wound" from by decide +kernel), fun z => absurd z nw⟩
  split
  · exact ⟨fun z => absurd z (show ("read" : Str) ≠ "wound" from by decide +kernel), fun z => absurd z nw⟩
  split
  · exact ⟨fun z => absurd z (show ("skip" : Str) ≠ "wound" from by decide +kernel), fun z => absurd z nw⟩
  · exact ⟨fun z => absurd z (show ("put" : Str) ≠ "wound" from by decide +kernel), fun z => absurd z nw⟩
theorem askR_fal {B : Bkm} {σ : MIR.S} {kd : Str} {s : Int} {n : Str} {v : Int} {m : List Str} {an : Str} (nw : an ≠ "wound") : (askR B σ kd s n v m an).2.fallen = [] ∨ (askR B σ kd s n v m an).2.fallen = fal σ s := by
  unfold askR
  rw [if_neg nw]
  split
  · exact .inl rfl
  split
  · exact .inr rfl
  split
  · exact .inl rfl
  split
  · exact .inl rfl
  · exact .inl rfl
theorem ans_write {f : Str → Str} (hf : ∀ x ∈ ENT, f x ∈ chs x) (B : Bkm) (hB : B.f = f) {sp : Str} (hs : sp ∈ SPOTS) (p : Bool) (nw : ansL B "write" sp (metM "write" sp p) ≠ "wound") :
    ansL B "write" sp (metM "write" sp p) ∈ (["put", "skip", "wait", "abort"] : List Str) := by
  have h1 : ∀ sp ∈ SPOTS, ∀ p ∈ [true, false], (match metM "write" sp p with | none => decide (MIR.fixM "write" sp ∈ (["put", "skip", "wait", "abort"] : List Str)) | some e => decide (e ∈ ENT) && (chs e).all fun a => decide (a = "wound") || decide (a ∈ (["put", "skip", "wait", "abort"] : List Str))) = true := by decide +kernel
  have h2 := h1 sp hs p (by cases p <;> simp)
  unfold ansL at nw ⊢
  cases e : metM "write" sp p with
  | none => rw [e] at h2; exact of_decide_eq_true h2
  | some y =>
    rw [e] at h2 nw
    have h3 : (decide (y ∈ ENT) && (chs y).all fun a => decide (a = "wound") || decide (a ∈ (["put", "skip", "wait", "abort"] : List Str))) = true := h2
    rw [Bool.and_eq_true] at h3
    have h4 := List.all_eq_true.mp h3.2 (f y) (hf y (of_decide_eq_true h3.1))
    show B.f y ∈ _
    have nw : B.f y ≠ "wound" := nw
    rw [hB] at nw ⊢
    rw [decide_eq_false nw, Bool.false_or] at h4
    exact of_decide_eq_true h4
theorem reqM_one {B : Bkm} {σ : MIR.S} {kd : Str} {s : Int} {n : Str} {v : Int} (h : (askM B σ kd s n v).2.word ≠ "wound") : reqM B σ kd s n v = askM B σ kd s n v := if_pos h
theorem reqM_two {B : Bkm} {σ : MIR.S} {kd : Str} {s : Int} {n : Str} {v : Int} (h : (askM B σ kd s n v).2.word = "wound") (hs : s ∉ fal σ (hInt (σ.it n))) :
    reqM B σ kd s n v = ((askM B (fallS σ (fal σ (hInt (σ.it n)))) kd s n v).1, ⟨(askM B (fallS σ (fal σ (hInt (σ.it n)))) kd s n v).2.word, metL (entOf σ kd s n) ++ (askM B (fallS σ (fal σ (hInt (σ.it n)))) kd s n v).2.met, (askM B (fallS σ (fal σ (hInt (σ.it n)))) kd s n v).2.val, asc (fal σ (hInt (σ.it n)) ++ (askM B (fallS σ (fal σ (hInt (σ.it n)))) kd s n v).2.fallen)⟩) := by
  have w0 := ask_wound h
  unfold reqM
  rw [w0]
  exact (if_neg (fun z => z rfl)).trans (if_neg hs)
theorem reqM_self {B : Bkm} {σ : MIR.S} {kd : Str} {s : Int} {n : Str} {v : Int} (h : (askM B σ kd s n v).2.word = "wound") (hs : s ∈ fal σ (hInt (σ.it n))) :
    reqM B σ kd s n v = (fallS σ (fal σ (hInt (σ.it n))), ⟨"abort", metL (entOf σ kd s n), .non, fal σ (hInt (σ.it n))⟩) := by
  have w0 := ask_wound h
  unfold reqM
  rw [w0]
  exact (if_neg (fun z => z rfl)).trans (if_pos hs)
/-- the entries that an outcome tells, and how many are waited for -/
def GdO (o : Out) : Prop := (∀ e ∈ o.met, e ∈ ENT) ∧ ∀ l, o.val = .tup l → l.length ≤ 100
theorem asc_len {L : List Int} (nd : L.Nodup) : (asc L).length = L.length := by
  obtain ⟨M, p, q⟩ := sort_ex L
  rw [asc_eq (perm_asc p q nd)]
  exact p.length_eq
theorem ask_met_eq (B : Bkm) (σ : MIR.S) (kd : Str) (s : Int) (n : Str) (v : Int) : (askM B σ kd s n v).2.met = metL (entOf σ kd s n) := (askR_met B σ kd s n v (metL (entOf σ kd s n)) [] (ansL B kd (spotOf σ s n) (entOf σ kd s n))).2.2.2.2
theorem ask_ent (B : Bkm) (σ : MIR.S) {kd : Str} (hk : kd ∈ KINDS) (s : Int) (n : Str) : ∀ e ∈ metL (entOf σ kd s n), e ∈ ENT := fun e he => by
  cases h : entOf σ kd s n with
  | none => rw [h] at he; cases he
  | some y => rw [h] at he; rw [List.mem_singleton.mp he]; exact ent_ENT hk (place_spots _ _ _) h
theorem ask_val (B : Bkm) (σ : MIR.S) (kd : Str) (s : Int) (n : Str) (v : Int) : ∀ l, (askM B σ kd s n v).2.val = .tup l → l.length ≤ 1 := fun l h => by
  rw [ask_R] at h
  have hv : ∀ a, valM (σ.it n) s a ≠ .tup l := fun a z => by
    unfold valM at z
    by_cases c1 : a = "open"
    · rw [if_pos c1] at z
      cases e : (σ.it n).opn with
      | none => rw [e] at z; cases z
      | some hv => rw [e] at z; cases z
    · rw [if_neg c1] at z
      by_cases c2 : a = "old"
      · rw [if_pos c2] at z; cases z
      · rw [if_neg c2] at z; cases z
  unfold askR at h
  split at h
  · cases h; exact Nat.le_refl _
  split at h
  · cases h
  split at h
  · cases h
  split at h
  · exact absurd h (hv _)
  split at h
  · cases h
  · cases h
theorem req_good (B : Bkm) (σ : MIR.S) {kd : Str} (hk : kd ∈ KINDS) (s : Int) (n : Str) (v : Int) : GdO (reqM B σ kd s n v).2 := by
  by_cases h : (askM B σ kd s n v).2.word = "wound"
  · by_cases hs : s ∈ fal σ (hInt (σ.it n))
    · rw [reqM_self h hs]
      exact ⟨ask_ent B σ hk s n, fun l z => (by cases z)⟩
    · rw [reqM_two h hs]
      refine ⟨fun e he => ?_, fun l z => Nat.le_trans (ask_val B _ kd s n v l z) (by decide)⟩
      rcases List.mem_append.mp he with g | g
      · exact ask_ent B σ hk s n e g
      · rw [ask_met_eq] at g; exact ask_ent B _ hk s n e g
  · rw [reqM_one h]
    exact ⟨fun e he => ask_ent B σ hk s n e (by rw [← ask_met_eq B σ kd s n v]; exact he), fun l z => Nat.le_trans (ask_val B σ kd s n v l z) (by decide)⟩
end
end K27

namespace K27
open PySem L2 SI CM BK OWN MIR StX TX TL
section
variable {w : World} {K : PySem.W.Frag} {mg : Str → Option Value} {base : Heap} (T : Txt w K mg)
/-! data that can be compared -/
theorem strOk_of {x : Str} (h : ∀ c ∈ TL.tl x, c < 0x110000) : PyData.strOk x = true := by
  unfold PyData.strOk
  rw [Array.all_eq_true]
  intro i hi
  refine decide_eq_true (h _ ?_)
  show x.cps[i] ∈ x.cps.toList
  exact Array.getElem_mem_toList hi
theorem NmOk.ok {z : Str} (h : NmOk z) : PyData.strOk z = true := strOk_of fun c hc => (show ∀ c ∈ TL.tl SIG, c < 0x110000 from by decide +kernel) c (h.2.2 c hc)
theorem dpAll_strs {K : PySem.W.Frag} {H : Hp} : ∀ L : List Str, DpAll K H (L.map V.str) (L.map PyData.str)
  | [] => .nil
  | _ :: L => .cons (.str _) (dpAll_strs L)
theorem ents_shaped {L : List Str} (h : ∀ e ∈ L, e ∈ ENT) : SeqAt.shaped (.tuple (L.map PyData.str)) = true := by
  have h1 : ∀ e ∈ ENT, PyData.strOk e = true := by decide +kernel
  have h2 : ∀ L : List Str, (∀ e ∈ L, e ∈ ENT) → PyData.canLayAll0 (L.map PyData.str) = true ∧ PyData.depthAll (L.map PyData.str) ≤ 1 := by
    intro L
    induction L with
    | nil => intro _; exact ⟨rfl, Nat.zero_le _⟩
    | cons x L ih =>
      intro h
      obtain ⟨a, b⟩ := ih fun e he => h e (List.mem_cons_of_mem _ he)
      have c := h1 x (h x (List.mem_cons_self ..))
      simp only [List.map_cons, PyData.canLayAll0, PyData.canLay0, c, a, PyData.depthAll, PyData.depth]
      exact ⟨rfl, by omega⟩
  obtain ⟨a, b⟩ := h2 L h
  unfold SeqAt.shaped
  rw [Bool.and_eq_true]
  refine ⟨by simpa [PyData.canLay0] using a, decide_eq_true ?_⟩
  simp only [PyData.depth]
  omega
theorem ents_refl {L : List Str} (h : ∀ e ∈ L, e ∈ ENT) : PyData.eqv (.tuple (L.map PyData.str)) (.tuple (L.map PyData.str)) = true := SeqAt.eqv_refl _ (SeqAt.canLay_of_shaped (ents_shaped h))
def stpD : Stp → PyData
  | .req k s n => .tuple [.str k, .int s, .str n]
  | .com s => .tuple [.str "commit", .int s]
  | .abo s => .tuple [.str "abort", .int s]
theorem stpD_dp {K : PySem.W.Frag} {H : Hp} {q : Addr} : ∀ {x : Stp}, StpAt H q x → Dp K H (.ref q) (stpD x)
  | .req _ _ _, h => .tup (SqT.of h) (.cons (.str _) (.cons (.int _) (.cons (.str _) .nil)))
  | .com _, h => .tup (SqT.of h) (.cons (.str _) (.cons (.int _) .nil))
  | .abo _, h => .tup (SqT.of h) (.cons (.str _) (.cons (.int _) .nil))
def StrStp : Stp → Prop
  | .req k _ n => PyData.strOk k = true ∧ PyData.strOk n = true
  | _ => True
theorem run_dp {K : PySem.W.Frag} {H : Hp} : ∀ {ws : List V} {xs : List Stp}, RunAt H ws xs → DpAll K H ws (xs.map stpD)
  | _, _, .nil => .nil
  | _, _, .cons ⟨q, e, h⟩ t => by subst e; exact .cons (stpD_dp h) (run_dp t)
theorem run_shaped {xs : List Stp} (h : ∀ x ∈ xs, StrStp x) : SeqAt.shaped (.list (xs.map stpD)) = true := by
  have h2 : ∀ xs : List Stp, (∀ x ∈ xs, StrStp x) → PyData.canLayAll0 (xs.map stpD) = true ∧ PyData.depthAll (xs.map stpD) ≤ 2 := by
    intro xs
    induction xs with
    | nil => intro _; exact ⟨rfl, Nat.zero_le _⟩
    | cons x xs ih =>
      intro h
      obtain ⟨a, b⟩ := ih fun e he => h e (List.mem_cons_of_mem _ he)
      have c := h x (List.mem_cons_self ..)
      have d : PyData.canLay0 (stpD x) = true ∧ PyData.depth (stpD x) ≤ 2 := by
        cases x with
        | req k s n => obtain ⟨c1, c2⟩ := c; simp [stpD, PyData.canLay0, PyData.canLayAll0, PyData.depth, PyData.depthAll, c1, c2]
        | com s => exact ⟨by simp [stpD, PyData.canLay0, PyData.canLayAll0]; decide +kernel, by simp [stpD, PyData.depth, PyData.depthAll]⟩
        | abo s => exact ⟨by simp [stpD, PyData.canLay0, PyData.canLayAll0]; decide +kernel, by simp [stpD, PyData.depth, PyData.depthAll]⟩
      simp only [List.map_cons, PyData.canLayAll0, d.1, a, PyData.depthAll]
      exact ⟨rfl, by omega⟩
  obtain ⟨a, b⟩ := h2 xs h
  unfold SeqAt.shaped
  rw [Bool.and_eq_true]
  refine ⟨by simpa [PyData.canLay0] using a, decide_eq_true ?_⟩
  simp only [PyData.depth]
  omega
theorem run_refl {xs : List Stp} (h : ∀ x ∈ xs, StrStp x) : PyData.eqv (.list (xs.map stpD)) (.list (xs.map stpD)) = true := SeqAt.eqv_refl _ (SeqAt.canLay_of_shaped (run_shaped h))
/-- a run as the laws pass it -/
structure LRun (H : Hp) (a : Addr) (ws : List V) (xs : List Stp) : Prop where
  at_ : H a = some (.lst ws)
  run : RunAt H ws xs
  kd : ∀ x ∈ xs, KdOk x
  st : ∀ x ∈ xs, StrStp x
  le : xs.length ≤ 100
  prt : PartsAt H ws (xs.map fun _ => true)
theorem LRun.same {H H' : Hp} {a : Addr} {ws : List V} {xs : List Stp} (h : LRun H a ws xs) (s : Same H H') : LRun H' a ws xs := ⟨s _ _ h.at_, h.run.same s, h.kd, h.st, h.le, h.prt.same s⟩
theorem XIn.kd {ms : List Nat} {nl : List Str} : ∀ {x : Stp}, XIn ms nl x → KdOk x
  | .req _ _ _, h => h.1
  | .com _, _ => trivial
  | .abo _, _ => trivial
theorem XIn.st {ms : List Nat} {nl : List Str} (hn : ∀ n ∈ nl, NmOk n) : ∀ {x : Stp}, XIn ms nl x → StrStp x
  | .req _ _ n, h => ⟨(show ∀ k ∈ KINDS, PyData.strOk k = true from by decide +kernel) _ h.1, (hn n h.2.2).ok⟩
  | .com _, _ => trivial
  | .abo _, _ => trivial
theorem mark_ok {ms : List Nat} (h : MarksOk ms) {m : Nat} (hm : m ∈ ms) : stampV (.int (m : Int)) 1 = true := by
  obtain ⟨a, b⟩ := h.2 m hm
  have e : ((6 * 10 ^ 28 : Nat) : Int) ≤ top30 := by decide
  show (decide ((1 : Int) ≤ (m : Int)) && decide ((m : Int) ≤ top30)) = true
  rw [decide_eq_true (by omega), decide_eq_true (by omega)]
  rfl
theorem name_short {n : Str} (h : NmOk n) : n.length ≤ 900 := by have := h.2.1; omega
theorem XIn.part {ms : List Nat} {nl : List Str} (hm : MarksOk ms) (hn : ∀ n ∈ nl, NmOk n) {H : Hp} {q : Addr} : ∀ {x : Stp}, XIn ms nl x → StpAt H q x → PartAt H (.ref q) true
  | .req k s n, h, z => by
    obtain ⟨hk, ⟨m, hm1, rfl⟩, hn1⟩ := h
    have lk : k.length ≤ 900 := (show ∀ k ∈ KINDS, k.length ≤ 900 from by decide +kernel) k hk
    refine .inr ⟨q, _, rfl, z, fun x hx => ?_, by show 3 ≤ 100; decide, ?_⟩
    · simp only [List.mem_cons, List.not_mem_nil, or_false] at hx
      rcases hx with e | e | e
      · subst e; exact ⟨rfl, fun z hz => by cases hz; exact lk⟩
      · subst e; exact ⟨rfl, fun z hz => by cases hz⟩
      · subst e; exact ⟨rfl, fun z hz => by cases hz; exact name_short (hn n hn1)⟩
    · have e1 : inV (V.str k) [V.str "read", V.str "write"] = true := (show ∀ k ∈ KINDS, inV (V.str k) [V.str "read", V.str "write"] = true from by decide +kernel) k hk
      show true = (inV (V.str k) [V.str "read", V.str "write"] && (stampV (.int (m : Int)) 1 && nameV (.str n)))
      rw [e1, mark_ok hm hm1, (hn n hn1).name]; rfl
  | .com s, h, z => by
    obtain ⟨m, hm1, rfl⟩ := h
    refine .inr ⟨q, _, rfl, z, fun x hx => ?_, by show 2 ≤ 100; decide, ?_⟩
    · simp only [List.mem_cons, List.not_mem_nil, or_false] at hx
      rcases hx with e | e
      · subst e; exact ⟨rfl, fun z hz => by cases hz; decide +kernel⟩
      · subst e; exact ⟨rfl, fun z hz => by cases hz⟩
    · have e1 : inV (V.str "commit") [V.str "commit", V.str "abort"] = true := by decide +kernel
      show true = (inV (V.str "commit") [V.str "commit", V.str "abort"] && stampV (.int (m : Int)) 1)
      rw [e1, mark_ok hm hm1]; rfl
  | .abo s, h, z => by
    obtain ⟨m, hm1, rfl⟩ := h
    refine .inr ⟨q, _, rfl, z, fun x hx => ?_, by show 2 ≤ 100; decide, ?_⟩
    · simp only [List.mem_cons, List.not_mem_nil, or_false] at hx
      rcases hx with e | e
      · subst e; exact ⟨rfl, fun z hz => by cases hz; decide +kernel⟩
      · subst e; exact ⟨rfl, fun z hz => by cases hz⟩
    · have e1 : inV (V.str "abort") [V.str "commit", V.str "abort"] = true := by decide +kernel
      show true = (inV (V.str "abort") [V.str "commit", V.str "abort"] && stampV (.int (m : Int)) 1)
      rw [e1, mark_ok hm hm1]; rfl
theorem RunIs.parts {ms : List Nat} {nl : List Str} (hm : MarksOk ms) (hn : ∀ n ∈ nl, NmOk n) {H : Hp} : ∀ {ws : List V} {xs : List Stp}, RunAt H ws xs → (∀ x ∈ xs, XIn ms nl x) → PartsAt H ws (xs.map fun _ => true)
  | _, _, .nil, _ => .nil
  | _, _, .cons ⟨q, e, h⟩ t, hx => by subst e; exact .cons ((hx _ (List.mem_cons_self ..)).part hm hn h) (RunIs.parts hm hn t fun x h => hx x (List.mem_cons_of_mem _ h))
theorem RunIs.l {H : Hp} {p : Addr} {ws : List V} {xs : List Stp} {ms : List Nat} {nl : List Str} (h : RunIs H p ws xs ms nl) (le : xs.length ≤ 100) : LRun H p ws xs :=
  ⟨h.at_, h.run, fun x hx => (h.ins x hx).kd, fun x hx => (h.ins x hx).st h.nms, le, RunIs.parts h.mks h.nms h.run h.ins⟩
theorem LRun.drop {H : Hp} {p q : Addr} {ws : List V} {xs : List Stp} (h : LRun H p ws xs) (n : Nat) (hq : H q = some (.lst (ws.drop n))) : LRun H q (ws.drop n) (xs.drop n) :=
  ⟨hq, h.run.drop n, fun x hx => h.kd x (List.mem_of_mem_drop hx), fun x hx => h.st x (List.mem_of_mem_drop hx), by rw [List.length_drop]; have := h.le; omega, by rw [List.map_drop]; exact h.prt.drop n⟩
theorem sIx_pos (n j : Nat) (h : j ≤ n) : HT.sIx n 0 (some (j : Int)) = j := by
  have e := HT.clip_eq (j : Int) n 0
  rw [if_neg (by omega)] at e
  omega
theorem cut_drop (ws : List V) (j : Nat) (h : j ≤ ws.length) : cutV ws (some (j : Int)) none = ws.drop j := by
  unfold cutV
  rw [sIx_pos _ _ h, HT.sIx_none]
  exact List.take_of_length_le (by rw [List.length_drop]; exact Nat.le_refl _)
end
end K27

namespace K27
open PySem L2 SI CM BK OWN MIR StX TX TL
section
variable {w : World} {K : PySem.W.Frag} {mg : Str → Option Value} {base : Heap} (T : Txt w K mg)
abbrev Wd : Type := Kd × Nat
/-- the text of these words -/
def txK (L : List Wd) : Str := Txt.join sp (L.map word)
def lenK (L : List Wd) : Int := (L.length : Int)
/-- the shortest ones first -/
def srtL (Ls : List (List Wd)) : List (List Wd) := (SKL.byK (Ls.map fun L => (lenK L, L))).map (·.2)
theorem steps_goodK {B : Addr} {L : List Wd} {it : Str} {H : Hp} {Q : VK} {E : XK} (hG : Good L) (hL : L.length ≤ 100) (k : ∀ H' p, Same H H' → IsRun H' p L it → Q (.ref p) H') :
    spSteps B [.str (txK L), .str it] H Q E := by
  have hw : ∀ w ∈ L.map word, w.length ≤ 32 := fun w hw => by
    obtain ⟨x, hx, rfl⟩ := List.mem_map.mp hw
    rw [len_tl, tl_word]
    exact word_len (hG x hx).2
  have hj := join_len hw
  rw [List.length_map] at hj
  refine ⟨_, _, rfl, (show (txK L).length ≤ 100000 by unfold txK; omega), ?_⟩
  cases L with
  | nil => exact .inl ⟨by decide +kernel, k⟩
  | cons x r =>
    refine .inr (.inl ⟨x :: r, by simp, ?_, hG, by omega, split_good (by simp), k⟩)
    show tl (Txt.join sp _) ≠ []
    rw [tl_joinS]
    cases r with
    | nil => exact fun e => by cases e
    | cons y r => exact fun e => by cases e
def RunsK (H : Hp) (ps : List Addr) (Ls : List (List Wd)) : Prop := F2 (fun p L => IsRun H p L "x") ps Ls
theorem RunsK.same {H H' : Hp} {ps : List Addr} {Ls : List (List Wd)} (s : Same H H') (h : RunsK H ps Ls) : RunsK H' ps Ls := F2.mono (fun _ _ z => z.same s) h
theorem F2.zip {α β : Type} {R : α → β → Prop} : ∀ {as : List α} {bs : List β}, F2 R as bs → ∃ zs : List (α × β), zs.map (·.1) = as ∧ zs.map (·.2) = bs ∧ ∀ z ∈ zs, R z.1 z.2
  | _, _, .nil => ⟨[], rfl, rfl, fun _ h => by cases h⟩
  | a :: _, b :: _, .cons r t => by
    obtain ⟨zs, h1, h2, h3⟩ := F2.zip t
    exact ⟨(a, b) :: zs, by rw [List.map_cons, h1], by rw [List.map_cons, h2], fun z hz => (List.mem_cons.mp hz).elim (fun e => by rw [e]; exact r) (h3 z)⟩
theorem F2.unzip {α β : Type} {R : α → β → Prop} : ∀ {zs : List (α × β)}, (∀ z ∈ zs, R z.1 z.2) → F2 R (zs.map (·.1)) (zs.map (·.2))
  | [], _ => .nil
  | z :: zs, h => .cons (h z (List.mem_cons_self ..)) (F2.unzip fun y hy => h y (List.mem_cons_of_mem _ hy))
theorem F2.flip {α β : Type} {R : α → β → Prop} : ∀ {as : List α} {bs : List β}, F2 R as bs → F2 (fun b a => R a b) bs as
  | _, _, .nil => .nil
  | _, _, .cons r t => .cons r (F2.flip t)
theorem F2.memP {α β : Type} {R : α → β → Prop} {P : α → Prop} : ∀ {as : List α} {bs : List β}, F2 R as bs → (∀ a ∈ as, P a) → F2 (fun a b => P a ∧ R a b) as bs
  | _, _, .nil, _ => .nil
  | _, _, .cons h t, p => .cons ⟨p _ (List.mem_cons_self ..), h⟩ (F2.memP t fun a m => p a (List.mem_cons_of_mem _ m))
/-- sorted along with what they stand for -/
theorem F2.srt {α : Type} {R : α → List Wd → Prop} {as : List α} {Ls : List (List Wd)} (h : F2 R as Ls) : F2 R ((SKL.byK ((Ls.map lenK).zip as)).map (·.2)) (srtL Ls) := by
  obtain ⟨zs, h1, h2, h3⟩ := F2.zip h
  have e1 : (Ls.map lenK).zip as = (zs.map fun z => (lenK z.2, z)).map fun p => (p.1, p.2.1) := by
    rw [← h1, ← h2, List.map_map, List.map_map]
    clear h1 h2 h3 h
    induction zs with
    | nil => rfl
    | cons z zs ih => exact congrArg _ ih
  have e2 : (Ls.map fun L => (lenK L, L)) = (zs.map fun z => (lenK z.2, z)).map fun p => (p.1, p.2.2) := by
    rw [← h2, List.map_map, List.map_map]; rfl
  unfold srtL
  rw [e1, e2, ← SKL.byK_map (fun z : α × List Wd => z.1), ← SKL.byK_map (fun z : α × List Wd => z.2), List.map_map, List.map_map]
  have e3 : ∀ l : List (Int × (α × List Wd)), l.map ((fun x : Int × α => x.2) ∘ fun p => (p.1, p.2.1)) = (l.map (·.2)).map (·.1) := fun l => by rw [List.map_map]; rfl
  have e4 : ∀ l : List (Int × (α × List Wd)), l.map ((fun x : Int × List Wd => x.2) ∘ fun p => (p.1, p.2.2)) = (l.map (·.2)).map (·.2) := fun l => by rw [List.map_map]; rfl
  rw [e3, e4]
  refine F2.unzip fun z hz => ?_
  obtain ⟨y, hy, rfl⟩ := List.mem_map.mp hz
  obtain ⟨x, hx, rfl⟩ := List.mem_map.mp ((SKL.byK_stb _).perm.mem_iff.mp hy)
  exact h3 x hx
theorem IsRun.chg {H H' : Hp} {D p : Addr} {od : Obj} {u : HO} {L : List Wd} {it : Str} (r : IsRun H p L it) (hD : H D = some (.frz od u)) (k : ∀ b o, b ≠ D → H b = some o → H' b = some o) : IsRun H' p L it := by
  obtain ⟨qs, h1, h2, h3⟩ := r
  exact ⟨qs, k _ _ (fun e => by rw [e, hD] at h1; cases h1) h1, h2, fun i q x a b => k _ _ (fun e => by have z := h3 i q x a b; rw [e, hD] at z; cases z) (h3 i q x a b)⟩
theorem IsRun.but {H H' : Hp} {D p : Addr} {l : List V} {L : List Wd} {it : Str} (r : IsRun H p L it) (hD : H D = some (.lst l)) (n : p ≠ D) (k : ∀ b o, b ≠ D → H b = some o → H' b = some o) : IsRun H' p L it := by
  obtain ⟨qs, h1, h2, h3⟩ := r
  exact ⟨qs, k _ _ n h1, h2, fun i q x a b => k _ _ (fun e => by have z := h3 i q x a b; rw [e, hD] at z; cases z) (h3 i q x a b)⟩
theorem IsRun.len {H : Hp} {p : Addr} {L : List Wd} {it : Str} (r : IsRun H p L it) : ∃ ys : List V, H p = some (.lst ys) ∧ ys.length = L.length := by
  obtain ⟨qs, h1, h2, h3⟩ := r
  exact ⟨_, h1, by rw [List.length_map]; exact h2⟩
def spShort (K : PySem.W.Frag) : Sp := fun vs H Q _ => ∃ (a : Addr) (Ls : List (List Wd)), vs = [.ref a] ∧ SqL K H a (Ls.map fun L => V.str (txK L)) ∧ Ls.length ≤ 900 ∧ (∀ L ∈ Ls, Good L ∧ L.length ≤ 100) ∧
  ∀ (H' : Hp) (q : Addr) (ps : List Addr), Same H H' → H q = none → H' q = some (.lst (ps.map V.ref)) → RunsK H' ps (srtL Ls) → Q (.ref q) H'
theorem ok_shortest : FnOk PP w K mg base CX0 5 T.f_shortest_first T.d_shortest_first ["texts"] (spShort K) := by
  refine T.F_shortest_first.ok sc_shortest_first (fun vs H Q E h => ?_) (fun cdv A outer s H vs Q E hr h => ?_)
  · obtain ⟨a, Ls, rfl, _⟩ := h
    rfl
  · obtain ⟨a, Ls, rfl, hS, hl, hG, k⟩ := h
    obtain ⟨_, rd1_steps_of, hb1_steps_of⟩ := b1_steps_of T
    refine ⟨_, pss_one (ps_ret (pe_sortedLen (by rfl) T.n_sorted (by rfl) T.n_len (pa_cons (pe_lc (own := [("text", 1)]) (g := gName 1) (tt := tYes) (by rfl) sc_shortest_first.nd (pi_list (pv 0)) (blkOk_by (N := ["texts", "text"]) (sc := defScope s_shortest_first) (by decide +kernel)) (fun _ _ _ _ _ => pg_name (i := 1) sc_shortest_first.nd rfl (Or.inl rfl)) (fun _ _ _ _ _ => pts_nil) (fun _ _ _ _ _ => (pe_lock (pe_call (ok_steps T) (hr.mono (by decide)) (by rfl) T.g_steps_of T.F_steps_of.kp hb1_steps_of rd1_steps_of passL (pa_cons (pv 1) pa_nil))))) pa_nil))), ?_⟩
    refine ⟨_, rfl, a, rfl, ⟨_, hS⟩, fun D nD => lc_list (K := K) (a := a) (xs := Ls.map fun L => V.str (txK L)) (fun i H' => Same H H' ∧ ∃ ps : List Addr, H' D = some (.lst (ps.map V.ref)) ∧ RunsK H' ps (Ls.take i) ∧ ∀ p ∈ ps, p ≠ D)
      ⟨same_new (Same.refl H) nD, [], upd_same, .nil, fun _ h => by cases h⟩ (fun i H' _ z => z.1.seq hS) ?_ ?_⟩
    · rintro i x H1 hx ⟨s1, ps, hD, hR, hn⟩
      obtain ⟨L, hL, rfl⟩ : ∃ L, Ls[i]? = some L ∧ x = V.str (txK L) := by
        rw [List.getElem?_map] at hx
        cases e : Ls[i]? with
        | none => rw [e] at hx; cases hx
        | some L => rw [e] at hx; exact ⟨L, rfl, (Option.some.inj hx).symm⟩
      obtain ⟨g1, g2⟩ := hG L (List.mem_of_getElem? hL)
      have hi := (List.getElem?_eq_some_iff.mp hL).1
      have hpl : ps.length = (Ls.take i).length := F2.len hR
      rw [List.length_take] at hpl
      refine ⟨rfl, D, .lst (ps.map V.ref), hD, trivial, fun od => ⟨_, rfl, ?_⟩⟩
      dsimp only [tNil]
      refine steps_goodK g1 g2 fun H2 p s2 hp => ⟨s2 _ _ upd_same, ps.map V.ref, upd_same, small1000 (by rw [List.length_map]; omega), ?_, ps ++ [p], ?_, ?_, ?_⟩
      · intro b o z
        have nb := ne_of_none z nD
        rw [upd_ne nb, upd_ne nb]
        exact s2 _ _ (by rw [upd_ne nb]; exact s1 _ _ z)
      · rw [upd_same, List.map_append]; rfl
      · have hfz : H2 D = some (.frz od (.lst (ps.map V.ref))) := s2 _ _ upd_same
        have kk : ∀ (H3 : Hp), (∀ b o, b ≠ D → H2 b = some o → H3 b = some o) → RunsK H3 (ps ++ [p]) (Ls.take (i + 1)) := fun H3 k3 => by
          rw [List.take_add_one, hL]
          refine F2.append ?_ (.cons (hp.chg hfz k3) .nil)
          refine F2.mono (fun q L z => ?_) (F2.memP hR hn)
          exact z.2.but hD z.1 fun b o nb w => k3 b o nb (s2 _ _ (by rw [upd_ne nb]; exact w))
        exact kk _ fun b o nb z => by rw [upd_ne nb, upd_ne nb]; exact z
      · intro q hq
        rcases List.mem_append.mp hq with hq | hq
        · exact hn q hq
        · rw [List.mem_singleton.mp hq]
          intro e
          obtain ⟨ys, y1, _⟩ := hp.len
          rw [e, s2 _ _ upd_same] at y1; cases y1
    · rintro H1 ⟨s1, ps, hD, hR, hn⟩
      rw [List.length_map, List.take_length] at hR
      have hpl : ps.length = Ls.length := F2.len hR
      refine ⟨D, ps, Ls.map (·.length), rfl, SqL.of hD, by rw [List.length_map]; exact hpl.symm, fun i q hq => ?_, fun q nq => k _ q _ (same_new s1 nq) (s1.free nq) upd_same ?_⟩
      · obtain ⟨L, hL, hr⟩ := F2.at hR hq
        obtain ⟨ys, y1, y2⟩ := hr.len
        exact ⟨ys, SqL.of y1, by rw [List.getElem?_map, hL, y2]; rfl⟩
      · have e : (Ls.map fun x => x.length).map (fun n : Nat => (n : Int)) = Ls.map lenK := by rw [List.map_map]; rfl
        rw [e]
        exact F2.srt (RunsK.same (same_new (Same.refl H1) nq) hR)
end
end K27

namespace K27
open PySem L2 SI CM BK OWN MIR StX TX TL
section
variable {w : World} {K : PySem.W.Frag} {mg : Str → Option Value} {base : Heap} (T : Txt w K mg)
instance : DecidableEq Kd := fun a b => by cases a <;> cases b <;> first | exact isTrue rfl | exact isFalse (fun h => by cases h)
abbrev kr (n : Nat) : Wd := (.rd, n)
abbrev kw (n : Nat) : Wd := (.wr, n)
abbrev kc (n : Nat) : Wd := (.cm, n)
/-- the ways of an entry -/
def WYS (e : Str) : List (List Wd) :=
  if e = "read late" then [[kw 2, kc 2, kr 1]]
  else if e = "read under" then [[kw 2, kc 2, kw 3, kr 1]]
  else if e = "read below" then [[kw 2, kr 1]]
  else if e = "read above" then [[kw 1, kr 2]]
  else if e = "write late" then [[kw 2, kc 2, kw 1]]
  else if e = "write under" then [[kw 2, kc 2, kw 3, kw 1]]
  else if e = "write below" then [[kw 2, kw 1]]
  else if e = "write above" then [[kw 1, kw 2]]
  else if e = "write free passed" then [[kr 2, kw 1]]
  else if e = "write own passed" then [[kw 1, kr 2, kw 1], [kr 2, kw 1, kw 1]]
  else if e = "write late passed" then [[kr 2, kw 2, kc 2, kw 1]]
  else if e = "write under passed" then [[kr 2, kw 2, kc 2, kw 3, kw 1]]
  else if e = "write below passed" then [[kr 2, kw 2, kw 1]]
  else [[kw 1, kr 3, kw 2], [kr 3, kw 1, kw 2]]
abbrev tokL (L : List (List Wd)) : List V := L.map fun l => .str (txK l)
theorem wys_ok : ∀ e ∈ ENT, srtL (WYS e) = WYS e ∧ (WYS e).length ≤ 2 ∧ ∀ L ∈ WYS e, (∀ x ∈ L, 1 ≤ x.2 ∧ x.2 ≤ topN) ∧ L.length ≤ 5 ∧ L ≠ [] := by decide +kernel
end
end K27

namespace K27
open PySem L2 SI CM BK OWN MIR StX TX TL
section
variable {w : World} {K : PySem.W.Frag} {mg : Str → Option Value} {base : Heap} (T : Txt w K mg)
/-- the step of a word -/
def stpK (p : Wd) : Stp := match p.1 with
  | .rd => .req "read" (p.2 : Int) "x"
  | .wr => .req "write" (p.2 : Int) "x"
  | .cm => .com (p.2 : Int)
  | .ab => .abo (p.2 : Int)
abbrev xsK (L : List Wd) : List Stp := L.map stpK
theorem stpK_at {H : Hp} {q : Addr} {p : Wd} (h : H q = some (.tup (stepV "x" p))) : StpAt H q (stpK p) := by
  obtain ⟨k, n⟩ := p
  cases k <;> exact h
theorem stpK_kd (p : Wd) : KdOk (stpK p) := by
  obtain ⟨k, n⟩ := p
  cases k
  · show ("read" : Str) ∈ KINDS; decide +kernel
  · show ("write" : Str) ∈ KINDS; decide +kernel
  · trivial
  · trivial
theorem stpK_st (p : Wd) : StrStp (stpK p) := by
  obtain ⟨k, n⟩ := p
  cases k
  · exact ⟨by decide +kernel, by decide +kernel⟩
  · exact ⟨by decide +kernel, by decide +kernel⟩
  · trivial
  · trivial
theorem stampK {n : Nat} (h : 1 ≤ n ∧ n ≤ topN) : stampV (.int (n : Int)) 1 = true := by
  have e : ((topN : Nat) : Int) = top30 := rfl
  have h2 : ((n : Nat) : Int) ≤ top30 := by rw [← e]; exact Int.ofNat_le.mpr h.2
  show (decide ((1 : Int) ≤ (n : Int)) && decide ((n : Int) ≤ top30)) = true
  rw [decide_eq_true (by omega), decide_eq_true h2]
  rfl
theorem fl3 {a c : Str} {n : Int} (h : a.length ≤ 900) (h2 : c.length ≤ 900) : ∀ x ∈ [V.str a, V.int n, V.str c], flat4 x = true ∧ ∀ z, x = .str z → z.length ≤ 900 := fun x hx => by
  simp only [List.mem_cons, List.not_mem_nil, or_false] at hx
  rcases hx with e | e | e
  · subst e; exact ⟨rfl, fun z hz => by cases hz; exact h⟩
  · subst e; exact ⟨rfl, fun z hz => by cases hz⟩
  · subst e; exact ⟨rfl, fun z hz => by cases hz; exact h2⟩
theorem fl2 {a : Str} {n : Int} (h : a.length ≤ 900) : ∀ x ∈ [V.str a, V.int n], flat4 x = true ∧ ∀ z, x = .str z → z.length ≤ 900 := fun x hx => by
  simp only [List.mem_cons, List.not_mem_nil, or_false] at hx
  rcases hx with e | e
  · subst e; exact ⟨rfl, fun z hz => by cases hz; exact h⟩
  · subst e; exact ⟨rfl, fun z hz => by cases hz⟩
theorem stpK_part {H : Hp} {q : Addr} {p : Wd} (g : 1 ≤ p.2 ∧ p.2 ≤ topN) (h : H q = some (.tup (stepV "x" p))) : PartAt H (.ref q) true := by
  obtain ⟨k, n⟩ := p
  have st : stampV (.int (n : Int)) 1 = true := stampK g
  have nx : nameV (.str "x") = true := by decide +kernel
  cases k
  · refine .inr ⟨q, [.str "read", .int (n : Int), .str "x"], rfl, h, fl3 (by decide +kernel) (by decide +kernel), (by show 3 ≤ 100; decide), ?_⟩
    show true = (inV (V.str "read") [V.str "read", V.str "write"] && (stampV (.int (n : Int)) 1 && nameV (.str "x")))
    rw [st, nx]; decide +kernel
  · refine .inr ⟨q, [.str "write", .int (n : Int), .str "x"], rfl, h, fl3 (by decide +kernel) (by decide +kernel), (by show 3 ≤ 100; decide), ?_⟩
    show true = (inV (V.str "write") [V.str "read", V.str "write"] && (stampV (.int (n : Int)) 1 && nameV (.str "x")))
    rw [st, nx]; decide +kernel
  · refine .inr ⟨q, [.str "commit", .int (n : Int)], rfl, h, fl2 (by decide +kernel), (by show 2 ≤ 100; decide), ?_⟩
    show true = (inV (V.str "commit") [V.str "commit", V.str "abort"] && stampV (.int (n : Int)) 1)
    rw [st]; decide +kernel
  · refine .inr ⟨q, [.str "abort", .int (n : Int)], rfl, h, fl2 (by decide +kernel), (by show 2 ≤ 100; decide), ?_⟩
    show true = (inV (V.str "abort") [V.str "commit", V.str "abort"] && stampV (.int (n : Int)) 1)
    rw [st]; decide +kernel
theorem F2.of_idx {α β : Type} {R : α → β → Prop} : ∀ {as : List α} {bs : List β}, as.length = bs.length → (∀ (i : Nat) a b, as[i]? = some a → bs[i]? = some b → R a b) → F2 R as bs
  | [], [], _, _ => .nil
  | [], _ :: _, h, _ => absurd h (by simp)
  | _ :: _, [], h, _ => absurd h (by simp)
  | a :: as, b :: bs, h, r => .cons (r 0 a b rfl rfl) (F2.of_idx (by simpa using h) fun i a' b' h1 h2 => r (i + 1) a' b' (by simpa using h1) (by simpa using h2))
theorem F2.mapL {α α' β : Type} {R : α' → β → Prop} {f : α → α'} : ∀ {as : List α} {bs : List β}, F2 (fun a b => R (f a) b) as bs → F2 R (as.map f) bs
  | _, _, .nil => .nil
  | _, _, .cons r t => .cons r (F2.mapL t)
theorem F2.mapR {α β β' : Type} {R : α → β' → Prop} {f : β → β'} : ∀ {as : List α} {bs : List β}, F2 (fun a b => R a (f b)) as bs → F2 R as (bs.map f)
  | _, _, .nil => .nil
  | _, _, .cons r t => .cons r (F2.mapR t)
theorem IsRun.lrun {H : Hp} {p : Addr} {L : List Wd} (r : IsRun H p L "x") (g : Good L) (le : L.length ≤ 100) : ∃ ws, LRun H p ws (xsK L) := by
  obtain ⟨qs, h1, h2, h3⟩ := r
  refine ⟨_, h1, F2.mapL (F2.mapR (F2.of_idx h2 fun i q x a b => ⟨q, rfl, stpK_at (h3 i q x a b)⟩)), fun x hx => ?_, fun x hx => ?_, by rw [List.length_map]; exact le, ?_⟩
  · obtain ⟨y, _, rfl⟩ := List.mem_map.mp hx; exact stpK_kd y
  · obtain ⟨y, _, rfl⟩ := List.mem_map.mp hx; exact stpK_st y
  · exact F2.mapL (F2.mapR (F2.mapR (F2.of_idx h2 fun i q x a b => stpK_part (g x (List.mem_of_getElem? b)) (h3 i q x a b))))
theorem LRun.q {K : PySem.W.Frag} {H : Hp} {p : Addr} {ws : List V} {xs : List Stp} (h : LRun H p ws xs) : RunQ K H p ws (xs.map fun _ => true) xs :=
  ⟨SqL.of h.at_, h.prt, by have := F2.len h.run; have := h.le; omega, fun _ => ⟨h.run, h.kd⟩⟩
end
end K27

/-! for x in D.values(), D a written dict; a comprehension with two sources. -/
namespace L2
open PySem PySem.Spec PyProof.Rows
/-- the pairs of a written dict -/
abbrev KVals (es : Array DictEntry) (kvs : List (Str × V)) : Prop := Paired (fun (e : DictEntry) (q : Str × V) => (∃ t, e.key = .str q.1 t) ∧ RelV q.2 e.val) es.toList kvs
theorem kv_pairs {prog : Program} {w : World} : ∀ {es : List DictEntry} {kvs : List (Str × V)}, Paired (fun (e : DictEntry) (q : Str × V) => (∃ t, e.key = .str q.1 t) ∧ RelV q.2 e.val) es kvs →
    ∃ vs : List (Str × Value), Pairs (strKind prog w) es vs ∧ vs.map (·.1) = kvs.map (·.1) ∧ Paired (fun (a : Str × Value) (b : Str × V) => RelV b.2 a.2) vs kvs
  | _, _, .nil => ⟨[], .nil, rfl, .nil⟩
  | e :: es, q :: kvs, .cons ⟨⟨t, hk⟩, hv⟩ r => by
    obtain ⟨vs, h1, h2, h3⟩ := kv_pairs (prog := prog) (w := w) r
    exact ⟨(q.1, e.val) :: vs, .cons (by rw [hk]; exact strKind_is prog w q.1 t) rfl h1, by rw [List.map_cons, h2]; rfl, .cons hv h3⟩
theorem dictAt_K {prog : Program} {w : World} {K : PySem.W.Frag} {h : Heap} {d : Addr} {es : Array DictEntry} {n : Nat} {kvs : List (Str × V)} (X : K.In h) (D : KDict K w d es n) (kv : KVals es kvs) (nd : (kvs.map (·.1)).Nodup) :
    ∃ vs : List (Str × Value), h.DictAt (strKind prog w) d vs n ∧ Paired (fun (a : Str × Value) (b : Str × V) => RelV b.2 a.2) vs kvs := by
  obtain ⟨vs, h1, h2, h3⟩ := kv_pairs (prog := prog) (w := w) kv
  exact ⟨vs, ⟨_, es, X _ _ D.at_, ⟨rfl, rfl, rfl⟩, rfl, fun e he => by
    obtain ⟨x, t, e1, e2⟩ := D.lit.all e (Array.mem_toList_iff.mpr he)
    exact ⟨x, by rw [e1]; exact strKind_is prog w x t, e2⟩, h1, by rw [h2]; exact nd⟩, h3⟩
theorem pair_get {vs : List (Str × Value)} {kvs : List (Str × V)} (h : Paired (fun (a : Str × Value) (b : Str × V) => RelV b.2 a.2) vs kvs) : ∀ {i : Nat} {q : Str × V}, kvs[i]? = some q → ∃ p : Str × Value, vs[i]? = some p ∧ RelV q.2 p.2 := by
  induction h with
  | nil => intro i q e; simp at e
  | cons r t ih =>
    intro i q e
    cases i with
    | zero => simp at e; subst e; exact ⟨_, rfl, r⟩
    | succ i =>
      obtain ⟨p, h1, h2⟩ := ih (i := i) (q := q) (by simpa using e)
      exact ⟨p, by simpa using h1, h2⟩
/-- the values of a written dict -/
def ItdK (xs : List V) : It := ⟨fun i _ => i < xs.length, fun i H x H' => H' = H ∧ xs[i]? = some x, fun i _ => xs.length ≤ i⟩
section
variable {P : Program} {w : World} {K : PySem.W.Frag} {tg : Expr} {d : Addr} {es : Array DictEntry} {ep : Nat}
theorem turn_valsK {kvs : List (Str × V)} (it : Addr) (D : KDict K w d es ep) (kv : KVals es kvs) (nd : (kvs.map (·.1)).Nodup) : Turn P w K tg (ItdK (kvs.map (·.2))) [it] it (fun i h => h.IsValIter it d i kvs.length ep) where
  mem := by simp
  obj := fun i h st b hb => by
    have e : b = it := by simpa using hb
    subst e
    obtain ⟨oi, e, c, dd⟩ := st
    exact ⟨oi, e, fun v z => by rw [dd] at z; cases z⟩
  keep := fun i h h' st k => st.at fun oi e => k it (by simp) oi e
  item := by
    intro X hP hw hK hc i pins s σ H E I hf st hg
    subst hP hw hK
    have hi : i < (kvs.map (·.2)).length := hg
    rw [List.length_map] at hi
    obtain ⟨f0, f1, f2, f3, f4, f5⟩ := hf it (by simp)
    obtain ⟨vs, hm, kvp⟩ := dictAt_K (prog := X.prog) I.kIn D kv nd
    obtain ⟨⟨k, v⟩, hkv⟩ : ∃ p, kvs[i]? = some p := ⟨kvs[i], List.getElem?_eq_getElem hi⟩
    obtain ⟨⟨k', u⟩, hu, ru⟩ := pair_get kvp hkv
    have hl : kvs.length = vs.length := (Paired.length kvp).symm
    rw [hl] at st
    refine wpAny_pyNext_values_item st hm hu fun h' st' sb => ?_
    have I1 : Inv X pins σ H { s with heap := h' } := I.turned (t' := s.toks) (fun b ob hb e => (sb.2 b hb).trans e) f0 f1 f3 f4 f5
    obtain ⟨oi, e, c, dd⟩ := id st'
    refine ⟨u, rfl, go_of (s := { s with heap := h' }) e c dd (by decide) ⟨v, H, I1, ru, ⟨rfl, by rw [List.getElem?_map, hkv]; rfl⟩, ?_, fun b hb => (hf b hb).1⟩⟩
    show h'.IsValIter it d (i + 1) kvs.length _
    rw [hl]
    exact st'
  done := by
    intro X hP hw hK hc i pins s σ H E I hf st hg
    subst hP hw hK
    have hi : (kvs.map (·.2)).length ≤ i := hg
    rw [List.length_map] at hi
    obtain ⟨f0, f1, f2, f3, f4, f5⟩ := hf it (by simp)
    obtain ⟨vs, hm, kvp⟩ := dictAt_K (prog := X.prog) I.kIn D kv nd
    have hl : kvs.length = vs.length := (Paired.length kvp).symm
    rw [hl] at st
    exact wpAny_pyNext_values_end (I.ok.hd hc) st hm (List.getElem?_eq_none (by omega)) fun h' eb => ⟨rfl, I.turned (t' := s.toks) (fun b ob hb e => eb b ob hb e) f0 f1 f3 f4 f5⟩
  self := fun A i s Q E st h => wpAny_pyIter_valiter st h
theorem walk_valsK {xs : List V} : Walk (ItdK xs) xs.length (fun _ => True) (YAt xs) :=
  ⟨fun _ _ hi _ => hi, fun _ _ => Nat.le_refl _, fun _ _ _ _ _ _ y => y⟩
end
section
variable {X : Cx} {tg e : Expr} {apos cpos : Pos} {d : Addr} {es : Array DictEntry} {n : Nat} {kvs : List (Str × V)}
theorem pi_valuesK (D : KDict X.K X.w d es n) (kv : KVals es kvs) (nd : (kvs.map (·.1)).Nodup) (he : PE X e (tC (.ref d))) (hbase : attributeBase e "values" X.env (eval e X.env) = eval e X.env := by rfl) (hline : (apos.endLine == cpos.line) = true := by rfl) :
    PI X tg (.Call (.Attribute e "values" apos) [] [] cpos) (fun _ H R => R (ItdK (kvs.map (·.2))) H) := by
  refine ⟨fun pins s σ H R I h => ?_⟩
  refine wpAny_Call_method (T := "dict") (id := "dict.values") hbase rfl hline F.plainAttrs_dict F.slot_dict_values F.type_dict_values (thn (he.run pins s σ H (fun x H1 => x = .ref d ∧ R (ItdK (kvs.map (·.2))) H1) I ⟨rfl, h⟩) fun u s1 ⟨x, H1, I1, rx, ex, q⟩ => ?_)
  subst ex
  obtain rfl : u = Value.ref d := rx
  obtain ⟨vs, hm, kvp⟩ := dictAt_K (prog := X.prog) I1.kIn D kv nd
  have hl : kvs.length = vs.length := (Paired.length kvp).symm
  refine ⟨hm.dictOf.typeIs, hm.dictOf.mapOf.noDict, ?_⟩
  have I2 : Inv X pins σ H1 { s1 with heap := s1.heap.push { cls := .type "dict_values", data := .fields #[.ref d] } } := I1.kept (t' := s1.toks) fun b ob q => Heap.get?_push_of_some _ q
  have fin : wpAny (model X.prog X.w) X.A (pyIter (.ref s1.heap.objs.size)) (PIE X pins σ tg R) X.xe { s1 with heap := s1.heap.push { cls := .type "dict_values", data := .fields #[.ref d] } } := by
    refine wpAny_pyIter_values (d := d) (knd := strKind X.prog X.w) ⟨_, Heap.get?_push_size _ rfl, rfl, rfl⟩ (hm.push _) (pi_one (tk := s1.toks) I2 _ (turn_valsK _ D kv nd) ⟨_, Heap.get?_push_size _ rfl, rfl, ?_⟩ q)
    rw [hl] <;> rfl
  show wpAny _ _ (callWith cpos (.builtin "dict.values") [.ref d] [] []) _ X.xe s1
  exact method_meetsIn F.slot_dict_values F.entry_dict_values rfl (PySem.evalArgs_none ⟨rfl, hm.dictOf.typeIs, F.args_dict_values_1 _, _, meets_dict_values (strKind X.prog X.w) d D.low, ⟨vs, hm.dictOf⟩, fin⟩)
end
section
variable {J J1 : It} {n n1 : Nat} {G G1 : Hp → Prop} {Y Y1 : Nat → Hp → V → Hp → Prop}
/-- the second source of a comprehension -/
theorem lc2_in (w : Walk J1 n1 G1 Y1) {g1 : TG} {tt1 : TT} {te : TE} {vs1 : List Nat} {σ2 : St} {H4 : Hp} {D : Addr} {Nx : Hp → Prop} (Pv : Nat → Hp → Prop) (h0 : Pv 0 H4) (hG : ∀ i H, i ≤ n1 → Pv i H → G1 H)
    (hs : ∀ i x H H', i < n1 → Pv i H → Y1 i H x H' → g1 x (wipe σ2 vs1) H' fun σ3 H5 => wipe σ3 vs1 = wipe σ2 vs1 ∧ tt1 σ3 H5 fun b H6 =>
      if b = true then te σ3 H6 fun y H7 => ∃ acc, H7 D = some (.lst acc) ∧ acc.length < sizeLine ∧ Pv (i + 1) (upd H7 D (.lst (acc ++ [y]))) else Pv (i + 1) H6) (hd : ∀ H, Pv n1 H → Nx H) :
    ∃ W1 : Nat → Nat → Hp → Prop, (∃ m, W1 0 m H4) ∧ ∀ j k H, W1 j k H →
      (J1.stop j H ∧ Nx H) ∨ (J1.go j H ∧ ∃ Nx1 : Hp → Prop, (∀ H', Nx1 H' → ∃ k', k' < k ∧ W1 (j + 1) k' H') ∧ ∀ x H', J1.yld j H x H' → g1 x (wipe σ2 vs1) H' fun σ3 H5 => wipe σ3 vs1 = wipe σ2 vs1 ∧ tt1 σ3 H5 fun b H6 =>
        if b = true then te σ3 H6 fun y H7 => ∃ acc, H7 D = some (.lst acc) ∧ acc.length < sizeLine ∧ Nx1 (upd H7 D (.lst (acc ++ [y]))) else Nx1 H6) := by
  refine ⟨fun i m H => m = n1 - i ∧ i ≤ n1 ∧ Pv i H, ⟨n1, by simp, Nat.zero_le _, h0⟩, ?_⟩
  rintro i m H ⟨rfl, hi, p⟩
  have q := hG i H hi p
  by_cases hlt : i < n1
  · exact .inr ⟨w.goes i H hlt q, Pv (i + 1), fun H' p' => ⟨n1 - (i + 1), by omega, rfl, hlt, p'⟩, fun x H' y => hs i x H H' hlt p (w.yields i H x H' hlt q y)⟩
  · have e : i = n1 := by omega
    subst e
    exact .inl ⟨w.stops H q, hd H p⟩
/-- the first source -/
theorem lc2_out (w : Walk J n G Y) {B : Nat → V → Hp → (Hp → Prop) → Prop} {H0 : Hp} {Qd : Hp → Prop} (Pv : Nat → Hp → Prop) (h0 : Pv 0 H0) (hG : ∀ i H, i ≤ n → Pv i H → G H)
    (hs : ∀ i x H H', i < n → Pv i H → Y i H x H' → B i x H' (Pv (i + 1))) (hd : ∀ H, Pv n H → Qd H) :
    ∃ W : Nat → Nat → Hp → Prop, (∃ m, W 0 m H0) ∧ ∀ i m H, W i m H →
      (J.stop i H ∧ Qd H) ∨ (J.go i H ∧ ∃ Nx : Hp → Prop, (∀ H', Nx H' → ∃ m', m' < m ∧ W (i + 1) m' H') ∧ ∀ x H', J.yld i H x H' → B i x H' Nx) := by
  refine ⟨fun i m H => m = n - i ∧ i ≤ n ∧ Pv i H, ⟨n, by simp, Nat.zero_le _, h0⟩, ?_⟩
  rintro i m H ⟨rfl, hi, p⟩
  have q := hG i H hi p
  by_cases hlt : i < n
  · exact .inr ⟨w.goes i H hlt q, Pv (i + 1), fun H' p' => ⟨n - (i + 1), by omega, rfl, hlt, p'⟩, fun x H' y => hs i x H H' hlt p (w.yields i H x H' hlt q y)⟩
  · have e : i = n := by omega
    subst e
    exact .inl ⟨w.stops H q, hd H p⟩
end
end L2

namespace K27
open PySem L2 SI CM BK OWN MIR StX TX TL
section
variable {w : World} {K : PySem.W.Frag} {mg : Str → Option Value} {base : Heap} (T : Txt w K mg)
/-! values renamed -/
def mapI (φ : Int → Int) (i : MIR.It) : MIR.It := ⟨i.kept.map fun p => (p.1, φ p.2), i.opn.map fun p => (p.1, φ p.2), i.rd⟩
def mapS (φ : Int → Int) (σ : MIR.S) : MIR.S := ⟨fun n => mapI φ (σ.it n), σ.ov, σ.bd⟩
def mapV (φ : Int → Int) : OV → OV
  | .int v => .int (φ v)
  | o => o
def mapO (φ : Int → Int) (o : Out) : Out := ⟨o.word, o.met, mapV φ o.val, o.fallen⟩
section
variable {φ : Int → Int} (h0 : φ 0 = 0)
include h0
theorem lastV_map (i : MIR.It) : lastV (mapI φ i) = ((lastV i).1, φ (lastV i).2) := by
  unfold lastV mapI
  show (i.kept.map fun p => (p.1, φ p.2)).getLastD (0, 0) = _
  rw [List.getLastD_eq_getLast?, List.getLastD_eq_getLast?, List.getLast?_map]
  cases i.kept.getLast? with
  | none => show ((0, 0) : Int × Int) = (0, φ 0); rw [h0]
  | some p => rfl
theorem hOf_map (i : MIR.It) : hOf (mapI φ i) = hOf i := by
  unfold hOf mapI
  cases i.opn <;> rfl
theorem hInt_map (i : MIR.It) : hInt (mapI φ i) = hInt i := by
  unfold hInt mapI
  cases i.opn <;> rfl
theorem oldM_map (i : MIR.It) (s : Int) : oldM (mapI φ i) s = (oldM i s).map φ := by
  unfold oldM mapI
  show ((i.kept.map fun p => (p.1, φ p.2)).filter fun p => decide (p.1 < s)).map (·.2) = _
  rw [List.filter_map, List.map_map, List.map_map]
  rfl
theorem valM_map (i : MIR.It) (s : Int) (a : Str) : valM (mapI φ i) s a = mapV φ (valM i s a) := by
  unfold valM
  by_cases c1 : a = "open"
  · rw [if_pos c1, if_pos c1]
    unfold mapI
    cases i.opn <;> rfl
  · rw [if_neg c1, if_neg c1]
    by_cases c2 : a = "old"
    · rw [if_pos c2, if_pos c2, oldM_map h0]
      show OV.int (((oldM i s).map φ).getLastD 0) = .int (φ ((oldM i s).getLastD 0))
      rw [List.getLastD_eq_getLast?, List.getLastD_eq_getLast?, List.getLast?_map]
      cases (oldM i s).getLast? with
      | none => show OV.int 0 = .int (φ 0); rw [h0]
      | some p => rfl
    · rw [if_neg c2, if_neg c2, lastV_map h0]; rfl
theorem relI_map (L : List Int) (i : MIR.It) : relI L (mapI φ i) = mapI φ (relI L i) := by
  unfold relI
  cases e : i.opn with
  | none => unfold mapI; rw [e]; rfl
  | some p =>
    have e2 : (mapI φ i).opn = some (p.1, φ p.2) := by unfold mapI; rw [e]; rfl
    rw [e2]
    show (if p.1 ∈ L then { mapI φ i with opn := none } else mapI φ i) = mapI φ (if p.1 ∈ L then { i with opn := none } else i)
    by_cases c : p.1 ∈ L
    · rw [if_pos c, if_pos c]; rfl
    · rw [if_neg c, if_neg c]
theorem setI_map (s : Int) (k : Nat) (i : MIR.It) : setI s k (mapI φ i) = mapI φ (setI s k i) := by
  unfold setI
  cases e : i.opn with
  | none => unfold mapI; rw [e]; rfl
  | some p =>
    have e2 : (mapI φ i).opn = some (p.1, φ p.2) := by unfold mapI; rw [e]; rfl
    rw [e2]
    show (if p.1 = s then { mapI φ i with kept := lastN k ((mapI φ i).kept ++ [(s, φ p.2)]), opn := none } else mapI φ i) = mapI φ (if p.1 = s then { i with kept := lastN k (i.kept ++ [(s, p.2)]), opn := none } else i)
    by_cases c : p.1 = s
    · rw [if_pos c, if_pos c]
      unfold mapI
      show MIR.It.mk _ _ _ = MIR.It.mk _ _ _
      congr 1
      show lastN k ((i.kept.map fun p => (p.1, φ p.2)) ++ [(s, φ p.2)]) = (lastN k (i.kept ++ [(s, p.2)])).map fun p => (p.1, φ p.2)
      rw [← map_lastN, List.map_append]; rfl
    · rw [if_neg c, if_neg c]
theorem reach_map {σ : MIR.S} {s t : Int} : Reach (mapS φ σ) s t ↔ Reach σ s t := by
  constructor
  · intro h
    induction h with
    | refl => exact .refl
    | step _ hu ho ih => exact .step ih hu ho
  · intro h
    induction h with
    | refl => exact .refl
    | step _ hu ho ih => exact .step ih hu ho
theorem isF_map {σ : MIR.S} {s : Int} {L : List Int} : IsF (mapS φ σ) s L ↔ IsF σ s L :=
  ⟨fun h => ⟨h.1, fun t => (h.2 t).trans (reach_map h0)⟩, fun h => ⟨h.1, fun t => (h.2 t).trans (reach_map h0).symm⟩⟩
theorem fal_map (σ : MIR.S) (s : Int) : fal (mapS φ σ) s = fal σ s := by
  by_cases h : ∃ L, IsF σ s L
  · obtain ⟨L, hL⟩ := h
    rw [fal_eq hL, fal_eq ((isF_map h0).mpr hL)]
  · have h' : ¬ ∃ L, IsF (mapS φ σ) s L := fun ⟨L, hL⟩ => h ⟨L, (isF_map h0).mp hL⟩
    unfold fal
    rw [dif_neg h, dif_neg h']
theorem fallS_map (σ : MIR.S) (L : List Int) : fallS (mapS φ σ) L = mapS φ (fallS σ L) := by
  unfold fallS mapS
  show MIR.S.mk _ _ _ = MIR.S.mk _ _ _
  congr 1
  funext n
  exact relI_map h0 L (σ.it n)
theorem commS_map (σ : MIR.S) (s : Int) (k : Nat) : commS (mapS φ σ) s k = mapS φ (commS σ s k) := by
  unfold commS mapS
  show MIR.S.mk _ _ _ = MIR.S.mk _ _ _
  congr 1
  funext n
  exact setI_map h0 s k (σ.it n)
theorem bondS_map (σ : MIR.S) (s h : Int) : bondS (mapS φ σ) s h = mapS φ (bondS σ s h) := by
  unfold bondS
  show (if h ∈ σ.bd s then mapS φ σ else _) = _
  by_cases c : h ∈ σ.bd s
  · rw [if_pos c, if_pos c]
  · rw [if_neg c, if_neg c]; rfl
theorem itS_map (σ : MIR.S) (n : Str) (i : MIR.It) : itS (mapS φ σ) n (mapI φ i) = mapS φ (itS σ n i) := by
  unfold itS mapS
  show MIR.S.mk _ _ _ = MIR.S.mk _ _ _
  congr 1
  funext m
  show (if m = n then mapI φ i else mapI φ (σ.it m)) = mapI φ (if m = n then i else σ.it m)
  by_cases c : m = n
  · rw [if_pos c, if_pos c]
  · rw [if_neg c, if_neg c]
theorem readS_map (σ : MIR.S) (n : Str) (s : Int) : readS (mapS φ σ) n s = mapS φ (readS σ n s) := by
  unfold readS
  show (if s ≤ (σ.it n).rd then mapS φ σ else _) = _
  by_cases c : s ≤ (σ.it n).rd
  · rw [if_pos c, if_pos c]
  · rw [if_neg c, if_neg c]
    exact itS_map h0 σ n { σ.it n with rd := s }
theorem askR_map (B : Bkm) (σ : MIR.S) (kd : Str) (s : Int) (n : Str) (v : Int) (m : List Str) (an : Str) :
    askR B (mapS φ σ) kd s n (φ v) m an = (mapS φ (askR B σ kd s n v m an).1, mapO φ (askR B σ kd s n v m an).2) := by
  have e1 : (mapS φ σ).it n = mapI φ (σ.it n) := rfl
  have e2 : spotOf (mapS φ σ) s n = spotOf σ s n := by
    unfold spotOf
    rw [e1, lastV_map h0, hOf_map h0]
  have e3 : (oldM (mapI φ (σ.it n)) s = []) = (oldM (σ.it n) s = []) := by rw [oldM_map h0, List.map_eq_nil_iff]
  have e4 : (if bindM B.ends (spotOf σ s n) an = true then bondS (mapS φ σ) s (hInt (σ.it n)) else mapS φ σ) = mapS φ (if bindM B.ends (spotOf σ s n) an = true then bondS σ s (hInt (σ.it n)) else σ) := by
    by_cases c : bindM B.ends (spotOf σ s n) an = true
    · rw [if_pos c, if_pos c, bondS_map h0]
    · rw [if_neg c, if_neg c]
  unfold askR
  rw [e1, e2, hInt_map h0, valM_map h0, fal_map h0, fal_map h0, fallS_map h0, fallS_map h0, e4, readS_map h0]
  simp only [e3]
  by_cases c1 : an = "wait"
  · rw [if_pos c1, if_pos c1]; rfl
  rw [if_neg c1, if_neg c1]
  by_cases c2 : an = "wound"
  · rw [if_pos c2, if_pos c2]; rfl
  rw [if_neg c2, if_neg c2]
  by_cases c3 : an = "abort" ∨ (an = "old" ∧ oldM (σ.it n) s = [])
  · rw [if_pos c3, if_pos c3]; rfl
  rw [if_neg c3, if_neg c3]
  by_cases c4 : kd = "read"
  · rw [if_pos c4, if_pos c4]; rfl
  rw [if_neg c4, if_neg c4]
  by_cases c5 : an = "skip"
  · rw [if_pos c5, if_pos c5]; rfl
  rw [if_neg c5, if_neg c5]
  refine Prod.ext ?_ rfl
  exact itS_map h0 _ n { σ.it n with opn := some (s, v) }
theorem askM_map (B : Bkm) (σ : MIR.S) (kd : Str) (s : Int) (n : Str) (v : Int) :
    askM B (mapS φ σ) kd s n (φ v) = (mapS φ (askM B σ kd s n v).1, mapO φ (askM B σ kd s n v).2) := by
  have e1 : (mapS φ σ).it n = mapI φ (σ.it n) := rfl
  have e2 : spotOf (mapS φ σ) s n = spotOf σ s n := by
    unfold spotOf
    rw [e1, lastV_map h0, hOf_map h0]
  have e3 : entOf (mapS φ σ) kd s n = entOf σ kd s n := by
    unfold entOf
    rw [e2]; rfl
  rw [ask_R, ask_R, e2, e3]
  exact askR_map h0 B σ kd s n v _ _
theorem reqM_map (B : Bkm) (σ : MIR.S) (kd : Str) (s : Int) (n : Str) (v : Int) :
    reqM B (mapS φ σ) kd s n (φ v) = (mapS φ (reqM B σ kd s n v).1, mapO φ (reqM B σ kd s n v).2) := by
  unfold reqM
  rw [askM_map h0]
  show (if (askM B σ kd s n v).2.word ≠ "wound" then _ else if s ∈ (askM B σ kd s n v).2.fallen then _ else _) = _
  by_cases c1 : (askM B σ kd s n v).2.word ≠ "wound"
  · rw [if_pos c1, if_pos c1]
  rw [if_neg c1, if_neg c1]
  by_cases c2 : s ∈ (askM B σ kd s n v).2.fallen
  · rw [if_pos c2, if_pos c2]; rfl
  rw [if_neg c2, if_neg c2]
  show ((askM B (mapS φ (askM B σ kd s n v).1) kd s n (φ v)).1, _) = _
  rw [askM_map h0]
  rfl
theorem takeM_map (B : Bkm) (σ : MIR.S) (x : Stp) (v : Int) :
    takeM B (mapS φ σ) x (φ v) = (mapS φ (takeM B σ x v).1, mapO φ (takeM B σ x v).2) := by
  unfold takeM
  show (if (σ.ov x.who).isSome = true then _ else _) = _
  by_cases c : (σ.ov x.who).isSome = true
  · rw [if_pos c, if_pos c]; rfl
  rw [if_neg c, if_neg c]
  cases x with
  | com s =>
    show (if waitsOf σ s ≠ [] then _ else _) = _
    by_cases c2 : waitsOf σ s ≠ []
    · rw [if_pos c2]
      show _ = (mapS φ (if waitsOf σ s ≠ [] then (σ, _) else _).1, mapO φ (if waitsOf σ s ≠ [] then (σ, _) else _).2)
      rw [if_pos c2]; rfl
    · rw [if_neg c2]
      show _ = (mapS φ (if waitsOf σ s ≠ [] then (σ, _) else _).1, mapO φ (if waitsOf σ s ≠ [] then (σ, _) else _).2)
      rw [if_neg c2, commS_map h0]; rfl
  | abo s =>
    show (fallS (mapS φ σ) (fal (mapS φ σ) s), _) = (mapS φ (fallS σ (fal σ s)), _)
    rw [fal_map h0, fallS_map h0]
    rfl
  | req kd s n => exact reqM_map h0 B σ kd s n v
end
end
end K27

namespace K27
open PySem L2 SI CM BK OWN MIR StX TX TL
section
variable {w : World} {K : PySem.W.Frag} {mg : Str → Option Value} {base : Heap} (T : Txt w K mg)
/-! what a state is like in a run -/
structure WFS (U : List Int) (σ : MIR.S) : Prop where
  bd : ∀ t, t ∉ U → σ.bd t = []
  ho : ∀ n h v, (σ.it n).opn = some (h, v) → h ∈ U
  nd : ∀ t, (σ.bd t).Nodup
  sb : ∀ t, ∀ h ∈ σ.bd t, h ∈ U
theorem WFS.zero {U : List Int} : WFS U s0 := ⟨fun _ _ => rfl, fun n h v e => (by cases e), fun _ => List.nodup_nil, fun t h hh => (by cases hh)⟩
theorem WFS.fall {U : List Int} {σ : MIR.S} (w : WFS U σ) (L : List Int) : WFS U (fallS σ L) := by
  refine ⟨w.bd, fun n h v e => ?_, w.nd, w.sb⟩
  have e : (relI L (σ.it n)).opn = some (h, v) := e
  unfold relI at e
  cases ho : (σ.it n).opn with
  | none => rw [ho] at e; have e : (σ.it n).opn = some (h, v) := e; rw [ho] at e; cases e
  | some p =>
    rw [ho] at e
    have e : (if p.1 ∈ L then { σ.it n with opn := none } else σ.it n).opn = some (h, v) := e
    by_cases c : p.1 ∈ L
    · rw [if_pos c] at e; cases e
    · rw [if_neg c] at e; exact w.ho n h v e
theorem WFS.comm {U : List Int} {σ : MIR.S} (w : WFS U σ) (s : Int) (k : Nat) : WFS U (commS σ s k) := by
  refine ⟨w.bd, fun n h v e => ?_, w.nd, w.sb⟩
  have e : (setI s k (σ.it n)).opn = some (h, v) := e
  unfold setI at e
  cases ho : (σ.it n).opn with
  | none => rw [ho] at e; have e : (σ.it n).opn = some (h, v) := e; rw [ho] at e; cases e
  | some p =>
    rw [ho] at e
    have e : (if p.1 = s then { σ.it n with kept := lastN k ((σ.it n).kept ++ [(s, p.2)]), opn := none } else σ.it n).opn = some (h, v) := e
    by_cases c : p.1 = s
    · rw [if_pos c] at e; cases e
    · rw [if_neg c] at e; exact w.ho n h v e
theorem WFS.bond {U : List Int} {σ : MIR.S} (w : WFS U σ) {s : Int} (hs : s ∈ U) {h : Int} (hh : h ∈ U) : WFS U (bondS σ s h) := by
  unfold bondS
  by_cases c : h ∈ σ.bd s
  · rw [if_pos c]; exact w
  · rw [if_neg c]
    refine ⟨fun t ht => ?_, w.ho, fun t => ?_, fun t x hx => ?_⟩
    · show (if t = s then σ.bd s ++ [h] else σ.bd t) = []
      rw [if_neg fun e : t = s => ht (by rw [e]; exact hs)]
      exact w.bd t ht
    · show (if t = s then σ.bd s ++ [h] else σ.bd t).Nodup
      by_cases e : t = s
      · rw [if_pos e]
        exact List.nodup_append.mpr ⟨w.nd s, List.nodup_cons.mpr ⟨List.not_mem_nil, List.nodup_nil⟩, fun a ha b hb' q => by rw [List.mem_singleton.mp hb'] at q; exact c (q ▸ ha)⟩
      · rw [if_neg e]; exact w.nd t
    · have hx : x ∈ (if t = s then σ.bd s ++ [h] else σ.bd t) := hx
      by_cases e : t = s
      · rw [if_pos e] at hx
        rcases List.mem_append.mp hx with q | q
        · exact w.sb s x q
        · rw [List.mem_singleton.mp q]; exact hh
      · rw [if_neg e] at hx; exact w.sb t x hx
theorem WFS.its {U : List Int} {σ : MIR.S} (w : WFS U σ) (n : Str) (i : MIR.It) (hi : ∀ h v, i.opn = some (h, v) → h ∈ U) : WFS U (itS σ n i) := by
  refine ⟨w.bd, fun m h v e => ?_, w.nd, w.sb⟩
  have e : (if m = n then i else σ.it m).opn = some (h, v) := e
  by_cases c : m = n
  · rw [if_pos c] at e; exact hi h v e
  · rw [if_neg c] at e; exact w.ho m h v e
theorem WFS.read {U : List Int} {σ : MIR.S} (w : WFS U σ) (n : Str) (s : Int) : WFS U (readS σ n s) := by
  unfold readS
  by_cases c : s ≤ (σ.it n).rd
  · rw [if_pos c]; exact w
  · rw [if_neg c]; exact w.its n _ fun h v e => w.ho n h v e
/-- nobody waits or is wounded where nobody holds -/
theorem none_ans {B : Bkm} (hf : ∀ x ∈ ENT, B.f x ∈ chs x) {σ : MIR.S} {kd : Str} (hk : kd ∈ KINDS) {s : Int} {n : Str} (h0 : hOf (σ.it n) = none) : ansL B kd (spotOf σ s n) (entOf σ kd s n) ∈ (["put", "abort", "last", "old", "skip"] : List Str) := by
  have h2 := no_hold hf B rfl hk (s := s) (x := (lastV (σ.it n)).1) (decide ((σ.it n).rd > s))
  rw [← h0] at h2
  exact h2.1
theorem WFS.ask {U : List Int} {σ : MIR.S} (w : WFS U σ) {B : Bkm} (hf : ∀ x ∈ ENT, B.f x ∈ chs x) {kd : Str} (hk : kd ∈ KINDS) {s : Int} (hs : s ∈ U) (n : Str) (v : Int) : WFS U (askM B σ kd s n v).1 := by
  have hn : hOf (σ.it n) = none → ansL B kd (spotOf σ s n) (entOf σ kd s n) ∈ (["put", "abort", "last", "old", "skip"] : List Str) := fun h => none_ans hf hk h
  rw [ask_R]
  generalize ansL B kd (spotOf σ s n) (entOf σ kd s n) = an at hn
  unfold askR
  have wb : WFS U (if bindM B.ends (spotOf σ s n) an = true then bondS σ s (hInt (σ.it n)) else σ) := by
    by_cases c : bindM B.ends (spotOf σ s n) an = true
    · rw [if_pos c]
      cases ho : (σ.it n).opn with
      | none =>
        have e2 : hOf (σ.it n) = none := by unfold hOf; rw [ho]; rfl
        have hs2 : spotOf σ s n = placeM s (lastV (σ.it n)).1 none := by show placeM s (lastV (σ.it n)).1 (hOf (σ.it n)) = _; rw [e2]
        rw [hs2, bind_none fun z => by have := hn e2; rw [z] at this; exact absurd this (by decide +kernel)] at c
        cases c
      | some p =>
        have e3 : hInt (σ.it n) = p.1 := by unfold hInt; rw [ho]
        rw [e3]
        exact w.bond hs (w.ho n p.1 p.2 ho)
    · rw [if_neg c]; exact w
  split
  · exact w
  split
  · exact w.fall _
  split
  · exact w.fall _
  split
  · exact wb.read n s
  split
  · exact wb
  · exact wb.its n _ fun h v e => by cases e; exact hs
theorem WFS.req {U : List Int} {σ : MIR.S} (w : WFS U σ) {B : Bkm} (hf : ∀ x ∈ ENT, B.f x ∈ chs x) {kd : Str} (hk : kd ∈ KINDS) {s : Int} (hs : s ∈ U) (n : Str) (v : Int) : WFS U (reqM B σ kd s n v).1 := by
  by_cases hw : (askM B σ kd s n v).2.word = "wound"
  · by_cases h2 : s ∈ fal σ (hInt (σ.it n))
    · rw [reqM_self hw h2]; exact w.fall _
    · rw [reqM_two hw h2]; exact (w.fall _).ask hf hk hs n v
  · rw [reqM_one hw]; exact w.ask hf hk hs n v
theorem WFS.take {U : List Int} {σ : MIR.S} (w : WFS U σ) {B : Bkm} (hf : ∀ x ∈ ENT, B.f x ∈ chs x) {x : Stp} (hk : KdOk x) (hx : x.who ∈ U) (v : Int) : WFS U (takeM B σ x v).1 := by
  unfold takeM
  by_cases c : (σ.ov x.who).isSome = true
  · rw [if_pos c]; exact w
  rw [if_neg c]
  cases x with
  | com s =>
    show WFS U (if waitsOf σ s ≠ [] then (σ, (⟨"wait", [], .tup (asc (waitsOf σ s)), []⟩ : Out)) else (commS σ s B.keep, ⟨"commit", [], .non, []⟩)).1
    by_cases c2 : waitsOf σ s ≠ []
    · rw [if_pos c2]; exact w
    · rw [if_neg c2]; exact w.comm s _
  | abo s => exact w.fall _
  | req kd s n => exact w.req hf hk hx n v
theorem WFS.st {B : Bkm} (hf : ∀ x ∈ ENT, B.f x ∈ chs x) {xs : List Stp} (hk : ∀ x ∈ xs, KdOk x) (i : Nat) : WFS (usOf xs) (stN B xs i) := by
  induction i with
  | zero => exact WFS.zero
  | succ i ih =>
    cases e : xs[i]? with
    | none =>
      have : stN B xs (i + 1) = stN B xs i := by
        show (match xs[i]? with | some x => (takeM B (stN B xs i) x (1 + (i : Nat))).1 | none => stN B xs i) = _
        rw [e]
      rw [this]; exact ih
    | some x =>
      rw [stN_at e]
      exact ih.take hf (hk x (List.mem_of_getElem? e)) (List.mem_map.mpr ⟨x, List.mem_of_getElem? e, rfl⟩) _
def nub : List Int → List Int
  | [] => []
  | x :: l => if x ∈ nub l then nub l else x :: nub l
theorem nub_mem : ∀ {l : List Int} {x : Int}, x ∈ nub l ↔ x ∈ l
  | [], _ => Iff.rfl
  | y :: l, x => by
    unfold nub
    by_cases c : y ∈ nub l
    · rw [if_pos c, nub_mem, List.mem_cons]
      exact ⟨.inr, fun h => h.elim (fun e => by rw [e]; exact nub_mem.mp c) id⟩
    · rw [if_neg c, List.mem_cons, List.mem_cons, nub_mem]
theorem nub_nd : ∀ l : List Int, (nub l).Nodup
  | [] => List.nodup_nil
  | y :: l => by
    unfold nub
    by_cases c : y ∈ nub l
    · rw [if_pos c]; exact nub_nd l
    · rw [if_neg c]; exact List.nodup_cons.mpr ⟨c, nub_nd l⟩
theorem WFS.isF {U : List Int} {σ : MIR.S} (w : WFS U σ) {s : Int} (hs : s ∈ U) : IsF σ s (fal σ s) ∧ ∀ t ∈ fal σ s, t ∈ U := by
  have ⟨a, b⟩ := fal_isF (σ := σ) (s := s) (U := nub U) (nub_nd U) (fun t ht => w.bd t fun h => ht (nub_mem.mpr h)) (nub_mem.mpr hs)
  exact ⟨a, fun t h => nub_mem.mp (b t h)⟩
theorem ask_wait {B : Bkm} {σ : MIR.S} {kd : Str} {s : Int} {n : Str} {v : Int} (h : (askM B σ kd s n v).2.word = "wait") : (kd = "wait" ∨ ansL B kd (spotOf σ s n) (entOf σ kd s n) = "wait") ∧ (askM B σ kd s n v).1 = σ := by
  rw [ask_R] at h ⊢
  generalize ansL B kd (spotOf σ s n) (entOf σ kd s n) = an at h ⊢
  unfold askR at h ⊢
  by_cases c1 : an = "wait"
  · rw [if_pos c1]; exact ⟨.inr c1, rfl⟩
  rw [if_neg c1] at h
  by_cases c2 : an = "wound"
  · rw [if_pos c2] at h; exact absurd h (show ("wound" : Str) ≠ "wait" from by decide +kernel)
  rw [if_neg c2] at h
  by_cases c3 : an = "abort" ∨ (an = "old" ∧ oldM (σ.it n) s = [])
  · rw [if_pos c3] at h; exact absurd h (show ("abort" : Str) ≠ "wait" from by decide +kernel)
  rw [if_neg c3] at h
  by_cases c4 : kd = "read"
  · rw [if_pos c4] at h; exact absurd h (show ("read" : Str) ≠ "wait" from by decide +kernel)
  rw [if_neg c4] at h
  by_cases c5 : an = "skip"
  · rw [if_pos c5] at h; exact absurd h (show ("skip" : Str) ≠ "wait" from by decide +kernel)
  rw [if_neg c5] at h
  exact absurd h (show ("put" : Str) ≠ "wait" from by decide +kernel)
theorem ask_void {B : Bkm} {σ : MIR.S} {kd : Str} {s : Int} {n : Str} {v : Int} : (askM B σ kd s n v).2.word ≠ "void" := by
  rw [ask_R]
  generalize ansL B kd (spotOf σ s n) (entOf σ kd s n) = an
  unfold askR
  split
  · exact (show ("wait" : Str) ≠ "void" from by decide +kernel)
  split
  · exact (show ("wound" : Str) ≠ "void" from by decide +kernel)
  split
  · exact (show ("abort" : Str) ≠ "void" from by decide +kernel)
  split
  · exact (show ("read" : Str) ≠ "void" from by decide +kernel)
  split
  · exact (show ("skip" : Str) ≠ "void" from by decide +kernel)
  · exact (show ("put" : Str) ≠ "void" from by decide +kernel)
theorem second_none {U : List Int} {B : Bkm} {σ : MIR.S} (w : WFS U σ) {kd : Str} {s : Int} {n : Str} {v : Int} (hf : ∀ x ∈ ENT, B.f x ∈ chs x) (hk : kd ∈ KINDS) (h : (askM B σ kd s n v).2.word = "wound") : hOf ((fallS σ (fal σ (hInt (σ.it n)))).it n) = none := by
  cases ho : (σ.it n).opn with
  | none => exact absurd h (no_wound hf hk (by unfold hOf; rw [ho]; rfl))
  | some p =>
    have e3 : hInt (σ.it n) = p.1 := by unfold hInt; rw [ho]
    exact rel_none (isF_self (w.isF (by rw [e3]; exact w.ho n p.1 p.2 ho)).1)
theorem req_idle {U : List Int} {B : Bkm} {σ : MIR.S} (w : WFS U σ) {kd : Str} {s : Int} {n : Str} {v : Int} (hf : ∀ x ∈ ENT, B.f x ∈ chs x) (hk : kd ∈ KINDS) (h : (reqM B σ kd s n v).2.word = "wait" ∨ (reqM B σ kd s n v).2.word = "void") : (reqM B σ kd s n v).1 = σ := by
  by_cases hw : (askM B σ kd s n v).2.word = "wound"
  · by_cases hs : s ∈ fal σ (hInt (σ.it n))
    · rw [reqM_self hw hs] at h
      rcases h with h | h
      · exact absurd h (show ("abort" : Str) ≠ "wait" from by decide +kernel)
      · exact absurd h (show ("abort" : Str) ≠ "void" from by decide +kernel)
    · rw [reqM_two hw hs] at h
      have hn := second_none w hf hk hw
      have ha := none_ans (s := s) hf hk hn
      rcases h with h | h
      · rcases (ask_wait h).1 with e | e
        · rw [e] at hk; exact absurd hk (by decide +kernel)
        · rw [e] at ha; exact absurd ha (by decide +kernel)
      · exact absurd h ask_void
  · rw [reqM_one hw] at h ⊢
    rcases h with h | h
    · exact (ask_wait h).2
    · exact absurd h ask_void
theorem take_idle {U : List Int} {B : Bkm} {σ : MIR.S} (w : WFS U σ) {x : Stp} {v : Int} (hf : ∀ x ∈ ENT, B.f x ∈ chs x) (hk : KdOk x) (h : (takeM B σ x v).2.word = "wait" ∨ (takeM B σ x v).2.word = "void") : (takeM B σ x v).1 = σ := by
  unfold takeM at h ⊢
  by_cases c : (σ.ov x.who).isSome = true
  · rw [if_pos c]
  rw [if_neg c] at h ⊢
  cases x with
  | com s =>
    have h : (if waitsOf σ s ≠ [] then (σ, (⟨"wait", [], .tup (asc (waitsOf σ s)), []⟩ : Out)) else (commS σ s B.keep, ⟨"commit", [], .non, []⟩)).2.word = "wait" ∨ (if waitsOf σ s ≠ [] then (σ, (⟨"wait", [], .tup (asc (waitsOf σ s)), []⟩ : Out)) else (commS σ s B.keep, ⟨"commit", [], .non, []⟩)).2.word = "void" := h
    show (if waitsOf σ s ≠ [] then (σ, (⟨"wait", [], .tup (asc (waitsOf σ s)), []⟩ : Out)) else (commS σ s B.keep, ⟨"commit", [], .non, []⟩)).1 = σ
    by_cases c2 : waitsOf σ s ≠ []
    · rw [if_pos c2]
    · rw [if_neg c2] at h
      rcases h with h | h
      · exact absurd h (show ("commit" : Str) ≠ "wait" from by decide +kernel)
      · exact absurd h (show ("commit" : Str) ≠ "void" from by decide +kernel)
  | abo s =>
    rcases h with h | h
    · exact absurd h (show ("abort" : Str) ≠ "wait" from by decide +kernel)
    · exact absurd h (show ("abort" : Str) ≠ "void" from by decide +kernel)
  | req kd s n => exact req_idle w hf hk h
/-- a read's value is a number, and no other step's -/
def VKind (o : Out) : Prop := (o.word = "read" → ∃ z, o.val = .int z) ∧ (o.word ≠ "read" → ∀ z, o.val ≠ .int z)
theorem ask_vkind {B : Bkm} {σ : MIR.S} {kd : Str} {s : Int} {n : Str} {v : Int} (hf : ∀ x ∈ ENT, B.f x ∈ chs x) (hk : kd ∈ KINDS) : VKind (askM B σ kd s n v).2 := by
  have hn : hOf (σ.it n) = none → ansL B kd (spotOf σ s n) (entOf σ kd s n) ∈ (["put", "abort", "last", "old", "skip"] : List Str) := fun h => none_ans hf hk h
  rw [ask_R]
  generalize ansL B kd (spotOf σ s n) (entOf σ kd s n) = an at hn
  unfold askR
  split
  · exact ⟨fun h => absurd h (show ("wait" : Str) ≠ "read" from by decide +kernel), fun _ z h => by cases h⟩
  split
  · exact ⟨fun h => absurd h (show ("wound" : Str) ≠ "read" from by decide +kernel), fun _ z h => by cases h⟩
  split
  · exact ⟨fun h => absurd h (show ("abort" : Str) ≠ "read" from by decide +kernel), fun _ z h => by cases h⟩
  split
  · refine ⟨fun _ => ?_, fun h => absurd rfl h⟩
    show ∃ z, valM (σ.it n) s an = .int z
    unfold valM
    by_cases c1 : an = "open"
    · rw [if_pos c1]
      cases ho : (σ.it n).opn with
      | none => have := hn (by unfold hOf; rw [ho]; rfl); rw [c1] at this; exact absurd this (by decide +kernel)
      | some p => exact ⟨_, rfl⟩
    · rw [if_neg c1]
      by_cases c2 : an = "old"
      · rw [if_pos c2]; exact ⟨_, rfl⟩
      · rw [if_neg c2]; exact ⟨_, rfl⟩
  split
  · exact ⟨fun h => absurd h (show ("skip" : Str) ≠ "read" from by decide +kernel), fun _ z h => by cases h⟩
  · exact ⟨fun h => absurd h (show ("put" : Str) ≠ "read" from by decide +kernel), fun _ z h => by cases h⟩
theorem take_vkind {B : Bkm} {σ : MIR.S} {x : Stp} {v : Int} (hf : ∀ x ∈ ENT, B.f x ∈ chs x) (hk : KdOk x) : VKind (takeM B σ x v).2 := by
  unfold takeM
  by_cases c : (σ.ov x.who).isSome = true
  · rw [if_pos c]; exact ⟨fun h => absurd h (show ("void" : Str) ≠ "read" from by decide +kernel), fun _ z h => by cases h⟩
  rw [if_neg c]
  cases x with
  | com s =>
    show VKind (if waitsOf σ s ≠ [] then (σ, (⟨"wait", [], .tup (asc (waitsOf σ s)), []⟩ : Out)) else (commS σ s B.keep, ⟨"commit", [], .non, []⟩)).2
    by_cases c2 : waitsOf σ s ≠ []
    · rw [if_pos c2]; exact ⟨fun h => absurd h (show ("wait" : Str) ≠ "read" from by decide +kernel), fun _ z h => by cases h⟩
    · rw [if_neg c2]; exact ⟨fun h => absurd h (show ("commit" : Str) ≠ "read" from by decide +kernel), fun _ z h => by cases h⟩
  | abo s => exact ⟨fun h => absurd h (show ("abort" : Str) ≠ "read" from by decide +kernel), fun _ z h => by cases h⟩
  | req kd s n =>
    show VKind (reqM B σ kd s n v).2
    by_cases hw : (askM B σ kd s n v).2.word = "wound"
    · by_cases hs : s ∈ fal σ (hInt (σ.it n))
      · rw [reqM_self hw hs]; exact ⟨fun h => absurd h (show ("abort" : Str) ≠ "read" from by decide +kernel), fun _ z h => by cases h⟩
      · rw [reqM_two hw hs]
        exact ask_vkind (v := v) hf hk
    · rw [reqM_one hw]; exact ask_vkind hf hk
theorem out_good {B : Bkm} (hf : ∀ x ∈ ENT, B.f x ∈ chs x) {xs : List Stp} (hk : ∀ x ∈ xs, KdOk x) (le : xs.length ≤ 100) (i : Nat) : GdO (outN B xs i) := by
  cases e : xs[i]? with
  | none =>
    unfold outN
    rw [e]
    exact ⟨fun e h => (by cases h), fun l h => (by cases h)⟩
  | some x =>
    rw [outN_at e]
    have w := WFS.st (B := B) hf hk i
    have mx := List.mem_of_getElem? e
    unfold takeM
    by_cases c : ((stN B xs i).ov x.who).isSome = true
    · rw [if_pos c]; exact ⟨fun e h => (by cases h), fun l h => (by cases h)⟩
    rw [if_neg c]
    cases x with
    | com s =>
      show GdO (if waitsOf (stN B xs i) s ≠ [] then (stN B xs i, (⟨"wait", [], .tup (asc (waitsOf (stN B xs i) s)), []⟩ : Out)) else (commS (stN B xs i) s B.keep, ⟨"commit", [], .non, []⟩)).2
      by_cases c2 : waitsOf (stN B xs i) s ≠ []
      · rw [if_pos c2]
        refine ⟨fun e h => (by cases h), fun l h => ?_⟩
        cases h
        have nd : (waitsOf (stN B xs i) s).Nodup := (w.nd s).sublist List.filter_sublist
        rw [asc_len nd]
        have h1 := nd_le nd (fun x hx => w.sb s x (List.mem_filter.mp hx).1)
        have h2 : (usOf xs).length = xs.length := List.length_map ..
        omega
      · rw [if_neg c2]; exact ⟨fun e h => (by cases h), fun l h => (by cases h)⟩
    | abo s => exact ⟨fun e h => (by cases h), fun l h => (by cases h)⟩
    | req kd s n => exact req_good _ _ (hk _ mx) _ _ _
theorem out_vkind {B : Bkm} (hf : ∀ x ∈ ENT, B.f x ∈ chs x) {xs : List Stp} (hk : ∀ x ∈ xs, KdOk x) {i : Nat} (hi : i < xs.length) : VKind (outN B xs i) := by
  have e : xs[i]? = some xs[i] := List.getElem?_eq_getElem hi
  rw [outN_at e]
  exact take_vkind hf (hk _ (List.getElem_mem hi))
end
end K27

/-! for i, (x, y) in enumerate(zip(xs, ys), start=c). -/
namespace EZ
open PySem PySem.Spec PyProof.Rows L2
open Sem (wp)
abbrev IsZ (h : Heap) (z TI TO : Addr) (f0 : Value) (b1 : Bool) : Prop :=
  h.get? z = some { cls := .type "zip", dict := none, data := .fields #[f0, .bool b1, .bool false, .ref TI, .ref TO], slots := #[] }
def GoodF (f0 : Value) : Prop := f0 = .none ∨ ∃ T : Nat, f0 = rawInt T
section
variable {prog : Program} {w : World} {A : Around} {E : Value → Shared → Prop} {s : Shared}
theorem wpAny_loadIfAlive {a : Addr} {Q : Option Obj → Shared → Prop} (h : Q (s.heap.get? a) s) : wpAny (model prog w) A (loadIfAlive a) Q E s :=
  fun Γ p _ => by unfold loadIfAlive; rw [Sem.wp_loadIfAlive]; exact h
theorem owned_any {z TI TO : Addr} {f0 : Value} {b1 : Bool} {Q : Bool → Shared → Prop} (hz : IsZ s.heap z TI TO f0 b1) (hf : GoodF f0) (hT : Q true s)
    (hF : ∀ h', IsZ h' z TI TO f0 true → Heap.SameBut z s.heap h' → Q false { s with heap := h' }) : wpAny (model prog w) A (Builtin.SmallTypes.ownedTupleIsFree (.ref z)) Q E s := by
  unfold Builtin.SmallTypes.ownedTupleIsFree
  rcases hf with rfl | ⟨T, rfl⟩
  · exact wpAny_bind (wpAny_field hz rfl (x := .none) rfl (wpAny_pure hT))
  · refine wpAny_bind (wpAny_field hz rfl (x := rawInt T) rfl ?_)
    show wpAny _ _ (loadIfAlive _ >>= _) _ _ _
    refine wpAny_bind (wpAny_loadIfAlive ?_)
    cases e : s.heap.get? (Int.toNat T) with
    | none => exact wpAny_pure hT
    | some o =>
      show wpAny _ _ (field (.ref z) 1 >>= _) _ _ _
      refine wpAny_bind (wpAny_field hz rfl (x := .bool b1) rfl ?_)
      cases b1 with
      | true => exact wpAny_pure (hF s.heap hz (Heap.SameBut.refl _ _))
      | false =>
        show wpAny _ _ (setField (.ref z) 1 (.bool true) >>= _) _ _ _
        exact wpAny_bind (wpAny_setField_rec hz (by simp) fun h1 hz1 hs1 => wpAny_pure (hF h1 hz1 hs1))
theorem zip_next_any {z TI TO i1 i2 l1 l2 : Addr} {k1 k2 : Nat} {xs ys : Array Value} {x y a b f0 : Value} {b1 : Bool} {Q : Value → Shared → Prop} (D : ZipApart z TI TO i1 i2 l1 l2)
    (hz : IsZ s.heap z TI TO f0 b1) (hf : GoodF f0) (hTI : IsPair s.heap TI (.ref i1) (.ref i2)) (hTO : IsPair s.heap TO a b)
    (h1 : s.heap.IsListIter i1 l1 k1) (h2 : s.heap.IsListIter i2 l2 k2) (hl1 : s.heap.IsList l1 xs) (hl2 : s.heap.IsList l2 ys) (hx : xs[k1]? = some x) (hy : ys[k2]? = some y)
    (hQ : ∀ h' f0' b1', IsZ h' z TI TO f0' b1' → GoodF f0' → (∃ a b, IsPair h' TO a b) → h'.IsListIter i1 l1 (k1 + 1) → h'.IsListIter i2 l2 (k2 + 1) → IsPair h' s.heap.objs.size x y → h'.objs.size = s.heap.objs.size + 1 →
      (∀ c o, c ≠ z → c ≠ TO → c ≠ i1 → c ≠ i2 → s.heap.get? c = some o → h'.get? c = some o) → Q (.ref s.heap.objs.size) { s with heap := h' }) :
    wpAny (model prog w) A (Builtin.«zip.__next__» ⟨[.ref z], []⟩) (fun fin s' => ∃ v, fin = .done (.ret v) ∧ Q v s') E s := by
  show wpAny _ _ (field (.ref z) 2 >>= _) _ _ _
  refine wpAny_bind (wpAny_field hz rfl (x := .bool false) rfl ?_)
  show wpAny _ _ (field (.ref z) 3 >>= _) _ _ _
  refine wpAny_bind (wpAny_field hz rfl (x := .ref TI) rfl ?_)
  refine wpAny_bind (wpAny_seqItems hTI rfl ?_)
  show wpAny _ _ (Builtin.SmallTypes.ownedTupleIsFree (.ref z) >>= _) _ _ _
  refine wpAny_bind (owned_any hz hf ?_ fun h₁ hz₁ hs₁ => ?_)
  · simp only [if_true]
    refine wpAny_bind (wpAny_rule ?_)
    refine wpAny_bind (wpAny_field hz rfl (x := .ref TO) rfl ?_)
    refine wpAny_bind (wpAny_setField_rec hz (by simp) fun h₁ hz₁ hs₁ => ?_)
    replace hz₁ : IsZ h₁ z TI TO .ellipsis b1 := hz₁
    refine wpAny_bind ?_
    simp only [List.zipIdx_cons, List.zipIdx_nil, List.forIn_cons, List.forIn_nil]
    refine wpAny_bind (wpAny_bind (wpAny_onRaise ?_))
    show wpAny _ _ (Builtin.SmallTypes.nextOf (.ref i1) >>= _) _ _ _
    refine wpAny_bind (wpAny_nextOf_list_item (h1.extBut hs₁.extBut D.i1z) (hl1.extBut hs₁.extBut D.l1z) hx fun h₂ h1₂ hs₂ => wpAny_pure ?_)
    have hTO₂ : IsPair h₂ TO a b := hs₂.extBut _ _ D.TOi1 (hs₁.extBut _ _ D.TOz hTO)
    refine wpAny_bind (wpAny_seqItems hTO₂ rfl ?_)
    refine wpAny_bind (wpAny_updateSeq_pair hTO₂ fun h₃ hTO₃ hs₃ => ?_)
    replace hTO₃ : IsPair h₃ TO x b := hTO₃
    refine wpAny_bind (wpAny_letGo (wpAny_pure ?_))
    refine wpAny_bind (wpAny_bind (wpAny_onRaise ?_))
    show wpAny _ _ (Builtin.SmallTypes.nextOf (.ref i2) >>= _) _ _ _
    refine wpAny_bind (wpAny_nextOf_list_item (((h2.extBut hs₁.extBut D.i2z).extBut hs₂.extBut D.i12.symm).extBut hs₃.extBut D.TOi2.symm)
      (((hl2.extBut hs₁.extBut D.l2z).extBut hs₂.extBut D.l2i1).extBut hs₃.extBut D.l2TO) hy fun h₄ h2₄ hs₄ => wpAny_pure ?_)
    have hTO₄ : IsPair h₄ TO x b := hs₄.extBut _ _ D.TOi2 hTO₃
    refine wpAny_bind (wpAny_seqItems hTO₄ rfl ?_)
    refine wpAny_bind (wpAny_updateSeq_pair hTO₄ fun h₅ hTO₅ hs₅ => ?_)
    replace hTO₅ : IsPair h₅ TO x y := hTO₅
    refine wpAny_bind (wpAny_letGo (wpAny_pure (wpAny_pure ?_)))
    refine wpAny_bind (wpAny_seqItems hTO₅ rfl ?_)
    refine wpAny_bind (wpAny_newTuple ?_)
    have hsz : h₅.objs.size = s.heap.objs.size := by rw [hs₅.1, hs₄.1, hs₃.1, hs₂.1, hs₁.1]
    have hz₅ : IsZ h₅ z TI TO .ellipsis b1 := hs₅.extBut _ _ D.TOz.symm (hs₄.extBut _ _ D.i2z.symm (hs₃.extBut _ _ D.TOz.symm (hs₂.extBut _ _ D.i1z.symm hz₁)))
    have hk₅ : ∀ c o, c ≠ z → c ≠ TO → c ≠ i1 → c ≠ i2 → s.heap.get? c = some o → h₅.get? c = some o := fun c o c1 c2 c3 c4 e =>
      hs₅.extBut _ _ c2 (hs₄.extBut _ _ c4 (hs₃.extBut _ _ c2 (hs₂.extBut _ _ c3 (hs₁.extBut _ _ c1 e))))
    have h1₅ : h₅.IsListIter i1 l1 (k1 + 1) := ((h1₂.extBut hs₃.extBut D.TOi1.symm).extBut hs₄.extBut D.i12).extBut hs₅.extBut D.TOi1.symm
    have h2₅ : h₅.IsListIter i2 l2 (k2 + 1) := h2₄.extBut hs₅.extBut D.TOi2.symm
    have hzlt : z < h₅.objs.size := Heap.lt_size hz₅
    show wpAny _ _ (Builtin.SmallTypes.ownedTupleHandOut (.ref z) (.ref h₅.objs.size) >>= _) _ _ _
    refine wpAny_bind ?_
    unfold Builtin.SmallTypes.ownedTupleHandOut
    have hz₆ : IsZ (h₅.push { cls := .type "tuple", data := .seq #[x, y] }) z TI TO .ellipsis b1 := Heap.get?_push_of_some _ hz₅
    refine wpAny_bind (wpAny_setField_rec hz₆ (by simp) fun h₇ hz₇ hs₇ => ?_)
    replace hz₇ : IsZ h₇ z TI TO (rawInt h₅.objs.size) b1 := hz₇
    refine wpAny_setField_rec hz₇ (by simp) fun h₈ hz₈ hs₈ => ?_
    replace hz₈ : IsZ h₈ z TI TO (rawInt h₅.objs.size) false := hz₈
    have up : ∀ c o, c ≠ z → h₅.get? c = some o → h₈.get? c = some o := fun c o c1 e => hs₈.extBut _ _ c1 (hs₇.extBut _ _ c1 (Heap.get?_push_of_some _ e))
    have hT₈ : IsPair h₈ h₅.objs.size x y := hs₈.extBut _ _ (Nat.ne_of_gt hzlt) (hs₇.extBut _ _ (Nat.ne_of_gt hzlt) (Heap.get?_push_size _ rfl))
    have hz8 : h₈.objs.size = h₅.objs.size + 1 := by rw [hs₈.1, hs₇.1, Heap.size_push]
    rw [hsz] at hz₈ hT₈ hz8
    refine wpAny_pure ⟨_, rfl, ?_⟩
    show Q (.ref h₅.objs.size) _
    rw [hsz]
    exact hQ h₈ _ _ hz₈ (.inr ⟨_, rfl⟩) ⟨_, _, up _ _ D.TOz hTO₅⟩ (h1₅.at fun o e => up _ o D.i1z e) (h2₅.at fun o e => up _ o D.i2z e) hT₈ hz8 fun c o c1 c2 c3 c4 e => up c o c1 (hk₅ c o c1 c2 c3 c4 e)
  · simp only [Bool.false_eq_true, if_false]
    rw [show (#[Value.ref i1, Value.ref i2] : Array Value) = [Value.ref i1, Value.ref i2].toArray from rfl, List.forIn_toArray]
    simp only [List.forIn_cons, List.forIn_nil]
    refine wpAny_bind ?_
    refine wpAny_bind (wpAny_bind (wpAny_holding ?_))
    show wpAny _ _ (Builtin.SmallTypes.nextOf (.ref i1) >>= _) _ _ _
    refine wpAny_bind (wpAny_nextOf_list_item (h1.extBut hs₁.extBut D.i1z) (hl1.extBut hs₁.extBut D.l1z) hx fun h₂ h1₂ hs₂ => wpAny_pure ?_)
    refine wpAny_pure ?_
    dsimp only
    refine wpAny_bind (wpAny_bind (wpAny_holding ?_))
    show wpAny _ _ (Builtin.SmallTypes.nextOf (.ref i2) >>= _) _ _ _
    refine wpAny_bind (wpAny_nextOf_list_item ((h2.extBut hs₁.extBut D.i2z).extBut hs₂.extBut D.i12.symm) ((hl2.extBut hs₁.extBut D.l2z).extBut hs₂.extBut D.l2i1) hy fun h₃ h2₃ hs₃ => wpAny_pure ?_)
    refine wpAny_pure ?_
    dsimp only
    refine wpAny_pure ?_
    dsimp only
    refine wpAny_bind (wpAny_newTuple (hsz := by show 2 ≤ sizeLine; decide) ?_)
    have hsz : h₃.objs.size = s.heap.objs.size := by rw [hs₃.1, hs₂.1, hs₁.1]
    have hz₃ : IsZ h₃ z TI TO f0 true := hs₃.extBut _ _ D.i2z.symm (hs₂.extBut _ _ D.i1z.symm hz₁)
    have hk₃ : ∀ c o, c ≠ z → c ≠ TO → c ≠ i1 → c ≠ i2 → s.heap.get? c = some o → h₃.get? c = some o := fun c o c1 c2 c3 c4 e =>
      hs₃.extBut _ _ c4 (hs₂.extBut _ _ c3 (hs₁.extBut _ _ c1 e))
    have up : ∀ c o, h₃.get? c = some o → (h₃.push { cls := .type "tuple", data := .seq #[x, y] }).get? c = some o := fun c o e => Heap.get?_push_of_some _ e
    have hT : IsPair (h₃.push { cls := .type "tuple", data := .seq #[x, y] }) h₃.objs.size x y := Heap.get?_push_size _ rfl
    have hz8 : (h₃.push { cls := .type "tuple", data := .seq #[x, y] }).objs.size = h₃.objs.size + 1 := Heap.size_push ..
    have hTO₃ : IsPair h₃ TO a b := hs₃.extBut _ _ D.TOi2 (hs₂.extBut _ _ D.TOi1 (hs₁.extBut _ _ D.TOz hTO))
    rw [hsz] at hT hz8
    refine wpAny_pure ⟨_, rfl, ?_⟩
    show Q (.ref h₃.objs.size) _
    rw [hsz]
    exact hQ _ _ _ (up _ _ hz₃) hf ⟨_, _, up _ _ hTO₃⟩ ((h1₂.extBut hs₃.extBut D.i12).at fun o e => up _ o e) (h2₃.at fun o e => up _ o e) hT hz8 fun c o c1 c2 c3 c4 e => up c o (hk₃ c o c1 c2 c3 c4 e)
theorem zip_next_endA {z TI TO i1 i2 l1 l2 : Addr} {k1 k2 : Nat} {xs ys : Array Value} {a b f0 : Value} {b1 : Bool} {Q : Fin → Shared → Prop} (hh : A.handled = none) (D : ZipApart z TI TO i1 i2 l1 l2)
    (hz : IsZ s.heap z TI TO f0 b1) (hf : GoodF f0) (hTI : IsPair s.heap TI (.ref i1) (.ref i2)) (hTO : IsPair s.heap TO a b)
    (h1 : s.heap.IsListIter i1 l1 k1) (h2 : s.heap.IsListIter i2 l2 k2) (hl1 : s.heap.IsList l1 xs) (hl2 : s.heap.IsList l2 ys) (hend : xs[k1]? = none ∨ ys[k2]? = none)
    (hE : ∀ h' e, (∀ c o, c ≠ z → c ≠ TO → c ≠ i1 → c ≠ i2 → s.heap.get? c = some o → h'.get? c = some o) → (∃ o, h'.get? e = some o ∧ o.cls = .type "StopIteration") → E (.ref e) { s with heap := h' }) :
    wpAny (model prog w) A (Builtin.«zip.__next__» ⟨[.ref z], []⟩) Q E s := by
  show wpAny _ _ (field (.ref z) 2 >>= _) _ _ _
  refine wpAny_bind (wpAny_field hz rfl (x := .bool false) rfl ?_)
  show wpAny _ _ (field (.ref z) 3 >>= _) _ _ _
  refine wpAny_bind (wpAny_field hz rfl (x := .ref TI) rfl ?_)
  refine wpAny_bind (wpAny_seqItems hTI rfl ?_)
  show wpAny _ _ (Builtin.SmallTypes.ownedTupleIsFree (.ref z) >>= _) _ _ _
  refine wpAny_bind (owned_any hz hf ?_ fun h₁ hz₁ hs₁ => ?_)
  · simp only [if_true]
    refine wpAny_bind (wpAny_rule ?_)
    refine wpAny_bind (wpAny_field hz rfl (x := .ref TO) rfl ?_)
    refine wpAny_bind (wpAny_setField_rec hz (by simp) fun h₁ hz₁ hs₁ => ?_)
    replace hz₁ : IsZ h₁ z TI TO .ellipsis b1 := hz₁
    refine wpAny_bind ?_
    simp only [List.zipIdx_cons, List.zipIdx_nil, List.forIn_cons, List.forIn_nil]
    refine wpAny_bind (wpAny_bind (wpAny_onRaise ?_))
    show wpAny _ _ (Builtin.SmallTypes.nextOf (.ref i1) >>= _) _ _ _
    cases hx : xs[k1]? with
    | none =>
      refine wpAny_bind (wpAny_nextOf_list_end hh (h1.extBut hs₁.extBut D.i1z) (hl1.extBut hs₁.extBut D.l1z) hx fun h₂ e hs₂ he => ?_)
      obtain ⟨oe, hoe, hce⟩ := he
      have hz₂ : IsZ h₂ z TI TO .ellipsis b1 := hs₂ _ _ D.i1z.symm hz₁
      have hez : e ≠ z := fun x => by subst x; rw [hz₂] at hoe; cases hoe; simp at hce
      refine wpAny_setField_rec hz₂ (by simp) fun h₃ _ hs₃ => hE h₃ e (fun c o c1 _ c3 _ x => hs₃.extBut _ _ c1 (hs₂ _ _ c3 (hs₁.extBut _ _ c1 x))) ⟨oe, hs₃.extBut _ _ hez hoe, hce⟩
    | some x =>
      have hy : ys[k2]? = none := by rcases hend with h | h; rw [hx] at h; cases h; exact h
      refine wpAny_bind (wpAny_nextOf_list_item (h1.extBut hs₁.extBut D.i1z) (hl1.extBut hs₁.extBut D.l1z) hx fun h₂ h1₂ hs₂ => wpAny_pure ?_)
      have hTO₂ : IsPair h₂ TO a b := hs₂.extBut _ _ D.TOi1 (hs₁.extBut _ _ D.TOz hTO)
      refine wpAny_bind (wpAny_seqItems hTO₂ rfl ?_)
      refine wpAny_bind (wpAny_updateSeq_pair hTO₂ fun h₃ hTO₃ hs₃ => ?_)
      refine wpAny_bind (wpAny_letGo (wpAny_pure ?_))
      refine wpAny_bind (wpAny_bind (wpAny_onRaise ?_))
      show wpAny _ _ (Builtin.SmallTypes.nextOf (.ref i2) >>= _) _ _ _
      refine wpAny_bind (wpAny_nextOf_list_end hh (((h2.extBut hs₁.extBut D.i2z).extBut hs₂.extBut D.i12.symm).extBut hs₃.extBut D.TOi2.symm)
        (((hl2.extBut hs₁.extBut D.l2z).extBut hs₂.extBut D.l2i1).extBut hs₃.extBut D.l2TO) hy fun h₄ e hs₄ he => ?_)
      obtain ⟨oe, hoe, hce⟩ := he
      have hz₄ : IsZ h₄ z TI TO .ellipsis b1 := hs₄ _ _ D.i2z.symm (hs₃.extBut _ _ D.TOz.symm (hs₂.extBut _ _ D.i1z.symm hz₁))
      have hez : e ≠ z := fun x => by subst x; rw [hz₄] at hoe; cases hoe; simp at hce
      refine wpAny_setField_rec hz₄ (by simp) fun h₅ _ hs₅ => hE h₅ e (fun c o c1 c2 c3 c4 x => hs₅.extBut _ _ c1 (hs₄ _ _ c4 (hs₃.extBut _ _ c2 (hs₂.extBut _ _ c3 (hs₁.extBut _ _ c1 x))))) ⟨oe, hs₅.extBut _ _ hez hoe, hce⟩
  · simp only [Bool.false_eq_true, if_false]
    rw [show (#[Value.ref i1, Value.ref i2] : Array Value) = [Value.ref i1, Value.ref i2].toArray from rfl, List.forIn_toArray]
    simp only [List.forIn_cons, List.forIn_nil]
    refine wpAny_bind ?_
    refine wpAny_bind (wpAny_bind (wpAny_holding ?_))
    show wpAny _ _ (Builtin.SmallTypes.nextOf (.ref i1) >>= _) _ _ _
    cases hx : xs[k1]? with
    | none =>
      exact wpAny_bind (wpAny_nextOf_list_end hh (h1.extBut hs₁.extBut D.i1z) (hl1.extBut hs₁.extBut D.l1z) hx fun h₂ e hs₂ he => hE h₂ e (fun c o c1 _ c3 _ x => hs₂ _ _ c3 (hs₁.extBut _ _ c1 x)) he)
    | some x =>
      have hy : ys[k2]? = none := by rcases hend with h | h; rw [hx] at h; cases h; exact h
      refine wpAny_bind (wpAny_nextOf_list_item (h1.extBut hs₁.extBut D.i1z) (hl1.extBut hs₁.extBut D.l1z) hx fun h₂ h1₂ hs₂ => wpAny_pure ?_)
      refine wpAny_pure ?_
      dsimp only
      refine wpAny_bind (wpAny_bind (wpAny_holding ?_))
      show wpAny _ _ (Builtin.SmallTypes.nextOf (.ref i2) >>= _) _ _ _
      exact wpAny_bind (wpAny_nextOf_list_end hh ((h2.extBut hs₁.extBut D.i2z).extBut hs₂.extBut D.i12.symm) ((hl2.extBut hs₁.extBut D.l2z).extBut hs₂.extBut D.l2i1) hy fun h₃ e hs₃ he => hE h₃ e (fun c o c1 _ c3 c4 x => hs₃ _ _ c4 (hs₂.extBut _ _ c3 (hs₁.extBut _ _ c1 x))) he)
theorem nextOf_zip_item {z TI TO i1 i2 l1 l2 : Addr} {k1 k2 : Nat} {xs ys : Array Value} {x y a b f0 : Value} {b1 : Bool} {Q : Value → Shared → Prop} (D : ZipApart z TI TO i1 i2 l1 l2)
    (hz : IsZ s.heap z TI TO f0 b1) (hf : GoodF f0) (hTI : IsPair s.heap TI (.ref i1) (.ref i2)) (hTO : IsPair s.heap TO a b)
    (h1 : s.heap.IsListIter i1 l1 k1) (h2 : s.heap.IsListIter i2 l2 k2) (hl1 : s.heap.IsList l1 xs) (hl2 : s.heap.IsList l2 ys) (hx : xs[k1]? = some x) (hy : ys[k2]? = some y)
    (hQ : ∀ h' f0' b1', IsZ h' z TI TO f0' b1' → GoodF f0' → (∃ a b, IsPair h' TO a b) → h'.IsListIter i1 l1 (k1 + 1) → h'.IsListIter i2 l2 (k2 + 1) → IsPair h' s.heap.objs.size x y → h'.objs.size = s.heap.objs.size + 1 →
      (∀ c o, c ≠ z → c ≠ TO → c ≠ i1 → c ≠ i2 → s.heap.get? c = some o → h'.get? c = some o) → Q (.ref s.heap.objs.size) { s with heap := h' }) :
    wpAny (model prog w) A (Builtin.SmallTypes.nextOf (.ref z)) Q E s := by
  have hT : s.TypeIs (.ref z) "zip" := ⟨_, hz, rfl⟩
  unfold Builtin.SmallTypes.nextOf
  exact wpAny_bind (wpAny_callSpecial?_slot (name := Str.ofString "__next__") hT F.slot_zip_next
    (wpAny_call_entry F.slot_zip_next hT F.entry_zip_next (zip_next_any D hz hf hTI hTO h1 h2 hl1 hl2 hx hy fun h' f b a0 a1 a2 a3 a4 a5 a6 a7 => wpAny_pure (hQ h' f b a0 a1 a2 a3 a4 a5 a6 a7)) (F.args_zip_next_1 _)))
theorem nextOf_zip_end {z TI TO i1 i2 l1 l2 : Addr} {k1 k2 : Nat} {xs ys : Array Value} {a b f0 : Value} {b1 : Bool} {Q : Value → Shared → Prop} (hh : A.handled = none) (D : ZipApart z TI TO i1 i2 l1 l2)
    (hz : IsZ s.heap z TI TO f0 b1) (hf : GoodF f0) (hTI : IsPair s.heap TI (.ref i1) (.ref i2)) (hTO : IsPair s.heap TO a b)
    (h1 : s.heap.IsListIter i1 l1 k1) (h2 : s.heap.IsListIter i2 l2 k2) (hl1 : s.heap.IsList l1 xs) (hl2 : s.heap.IsList l2 ys) (hend : xs[k1]? = none ∨ ys[k2]? = none)
    (hE : ∀ h' e, (∀ c o, c ≠ z → c ≠ TO → c ≠ i1 → c ≠ i2 → s.heap.get? c = some o → h'.get? c = some o) → (∃ o, h'.get? e = some o ∧ o.cls = .type "StopIteration") → E (.ref e) { s with heap := h' }) :
    wpAny (model prog w) A (Builtin.SmallTypes.nextOf (.ref z)) Q E s := by
  have hT : s.TypeIs (.ref z) "zip" := ⟨_, hz, rfl⟩
  unfold Builtin.SmallTypes.nextOf
  exact wpAny_bind (wpAny_callSpecial?_slot (name := Str.ofString "__next__") hT F.slot_zip_next
    (wpAny_call_entry F.slot_zip_next hT F.entry_zip_next (zip_next_endA hh D hz hf hTI hTO h1 h2 hl1 hl2 hend hE) (F.args_zip_next_1 _)))
theorem enum_zip_item {e z TI TO i1 i2 l1 l2 : Addr} {c : Int} {k1 k2 : Nat} {xs ys : Array Value} {x y a b f0 old : Value} {b1 : Bool} {Q : Value → Shared → Prop} (D : ZipApart z TI TO i1 i2 l1 l2)
    (ez : e ≠ z) (eTI : e ≠ TI) (eTO : e ≠ TO) (e1 : e ≠ i1) (e2 : e ≠ i2)
    (he : IsEnum s.heap e z c old) (hz : IsZ s.heap z TI TO f0 b1) (hf : GoodF f0) (hTI : IsPair s.heap TI (.ref i1) (.ref i2)) (hTO : IsPair s.heap TO a b)
    (h1 : s.heap.IsListIter i1 l1 k1) (h2 : s.heap.IsListIter i2 l2 k2) (hl1 : s.heap.IsList l1 xs) (hl2 : s.heap.IsList l2 ys) (hx : xs[k1]? = some x) (hy : ys[k2]? = some y)
    (hQ : ∀ h₁ h' f0' b1', h₁.objs.size = s.heap.objs.size + 1 → IsPair h₁ s.heap.objs.size x y → (∀ b o, b ≠ z → b ≠ TO → b ≠ i1 → b ≠ i2 → s.heap.get? b = some o → h₁.get? b = some o) → (∀ b o, b ≠ e → h₁.get? b = some o → h'.get? b = some o) → IsEnumOut h' e z (c + 1) (.ref s.heap.objs.size) (s.heap.objs.size + 1) → IsZ h' z TI TO f0' b1' → GoodF f0' → IsPair h' TI (.ref i1) (.ref i2) → (∃ a b, IsPair h' TO a b) → h'.IsListIter i1 l1 (k1 + 1) → h'.IsListIter i2 l2 (k2 + 1) → IsPair h' s.heap.objs.size x y →
      h'.get? (s.heap.objs.size + 1) = some { cls := .type "tuple", data := .seq #[.int c s.toks, .ref s.heap.objs.size] } → h'.objs.size = s.heap.objs.size + 2 →
      (∀ b o, b ≠ e → b ≠ z → b ≠ TO → b ≠ i1 → b ≠ i2 → s.heap.get? b = some o → h'.get? b = some o) → Q (.ref (s.heap.objs.size + 1)) { s with heap := h', toks := s.toks + 1 }) :
    wpAny (model prog w) A (Builtin.«enumerate.__next__» ⟨[.ref e], []⟩) (fun fin s' => ∃ v, fin = .done (.ret v) ∧ Q v s') E s := by
  obtain ⟨hp, g, d, tk, os⟩ := s
  show wpAny _ _ (field (.ref e) 2 >>= _) _ _ _
  refine wpAny_bind (wpAny_field he rfl (x := .ref z) rfl ?_)
  refine wpAny_bind (nextOf_zip_item D hz hf hTI hTO h1 h2 hl1 hl2 hx hy fun h₁ f0' b1' z₁ gf₁ p₁ it1₁ it2₁ t₁ sz₁ k₁ => ?_)
  replace t₁ : IsPair h₁ hp.objs.size x y := t₁
  replace sz₁ : h₁.objs.size = hp.objs.size + 1 := sz₁
  replace k₁ : ∀ c o, c ≠ z → c ≠ TO → c ≠ i1 → c ≠ i2 → hp.get? c = some o → h₁.get? c = some o := k₁
  have he₁ : IsEnum h₁ e z c old := k₁ _ _ ez eTO e1 e2 he
  have hTI₁ : IsPair h₁ TI (.ref i1) (.ref i2) := k₁ _ _ D.TIz D.TITO D.TIi1 D.TIi2 hTI
  show wpAny _ _ (field (.ref e) 3 >>= _) _ _ ⟨h₁, g, d, tk, os⟩
  refine wpAny_bind (wpAny_field he₁ rfl (x := rawInt c) rfl ?_)
  show wpAny _ _ (field (.ref e) 4 >>= _) _ _ ⟨h₁, g, d, tk, os⟩
  refine wpAny_bind (wpAny_field he₁ rfl (x := .none) rfl ?_)
  show wpAny _ _ (mkInt c >>= _) _ _ ⟨h₁, g, d, tk, os⟩
  refine wpAny_bind (wpAny_mkInt ?_)
  show wpAny _ _ (setField (.ref e) 3 (rawInt (c + 1)) >>= _) _ _ ⟨h₁, g, d, tk + 1, os⟩
  refine wpAny_bind (wpAny_setField_rec he₁ (by simp) fun h₂ he₂ hs₂ => ?_)
  replace hs₂ : Heap.SameBut e h₁ h₂ := hs₂
  replace he₂ : IsEnum h₂ e z (c + 1) old := he₂
  show wpAny _ _ (setField (.ref e) 4 .none >>= _) _ _ ⟨h₂, g, d, tk + 1, os⟩
  refine wpAny_bind (wpAny_setField_rec he₂ (by simp) fun h₃ he₃ hs₃ => ?_)
  replace hs₃ : Heap.SameBut e h₂ h₃ := hs₃
  replace he₃ : IsEnum h₃ e z (c + 1) old := he₃
  show wpAny _ _ (newTuple [.int c tk, .ref hp.objs.size] >>= _) _ _ ⟨h₃, g, d, tk + 1, os⟩
  refine wpAny_bind (wpAny_newTuple (hsz := by show 2 ≤ sizeLine; decide) ?_)
  have he₄ : IsEnum (h₃.push { cls := .type "tuple", data := .seq #[.int c tk, .ref hp.objs.size] }) e z (c + 1) old := Heap.get?_push_of_some _ he₃
  have hsz : h₃.objs.size = hp.objs.size + 1 := by rw [hs₃.1, hs₂.1, sz₁]
  have up₄ : ∀ b o, b ≠ e → h₁.get? b = some o → (h₃.push { cls := .type "tuple", data := .seq #[.int c tk, .ref hp.objs.size] }).get? b = some o := fun b o be hb =>
    Heap.get?_push_of_some _ (hs₃.extBut b o be (hs₂.extBut b o be hb))
  generalize hh₄ : h₃.push { cls := .type "tuple", data := .seq #[.int c tk, .ref hp.objs.size] } = h₄ at he₄ up₄
  have hel : e < hp.objs.size := Heap.lt_size he
  have ht₄ : h₄.get? (hp.objs.size + 1) = some { cls := .type "tuple", data := .seq #[.int c tk, .ref hp.objs.size] } := by rw [← hh₄, ← hsz]; exact Heap.get?_push_size _ rfl
  have hz₄ : h₄.objs.size = hp.objs.size + 2 := by rw [← hh₄, Heap.size_push, hsz]
  show wpAny _ _ (Builtin.SmallTypes.ownedTupleIsFree (.ref e) >>= _) _ _ ⟨h₄, g, d, tk + 1, os⟩
  rw [hsz]
  clear hh₄ he₃ hs₃ he₂ hs₂ hsz h₃ h₂
  refine wpAny_bind ?_
  · unfold Builtin.SmallTypes.ownedTupleIsFree
    refine wpAny_bind (wpAny_field he₄ rfl (x := .none) rfl (wpAny_pure ?_))
    simp only [if_true]
    refine wpAny_bind (wpAny_rule ?_)
    refine wpAny_bind (wpAny_field he₄ rfl (x := old) rfl ?_)
    refine wpAny_bind (wpAny_setField_rec he₄ (by simp) fun h₅ he₅ hs₅ => ?_)
    replace hs₅ : Heap.SameBut e h₄ h₅ := hs₅
    replace he₅ : IsEnum h₅ e z (c + 1) (.ref hp.objs.size) := he₅
    show wpAny _ _ (Builtin.SmallTypes.ownedTupleHandOut (.ref e) (.ref (hp.objs.size + 1)) >>= _) _ _ ⟨h₅, g, d, tk + 1, os⟩
    refine wpAny_bind ?_
    · unfold Builtin.SmallTypes.ownedTupleHandOut
      refine wpAny_bind (wpAny_setField_rec he₅ (by simp) fun h₆ he₆ hs₆ => ?_)
      replace hs₆ : Heap.SameBut e h₅ h₆ := hs₆
      replace he₆ : IsEnumOut h₆ e z (c + 1) (.ref hp.objs.size) (hp.objs.size + 1) := he₆
      refine wpAny_setField_rec he₆ (by simp) fun h₇ he₇ hs₇ => ?_
      replace hs₇ : Heap.SameBut e h₆ h₇ := hs₇
      replace he₇ : IsEnumOut h₇ e z (c + 1) (.ref hp.objs.size) (hp.objs.size + 1) := he₇
      have up₇ : ∀ b o, b ≠ e → h₄.get? b = some o → h₇.get? b = some o := fun b o be hb => hs₇.extBut b o be (hs₆.extBut b o be (hs₅.extBut b o be hb))
      have up : ∀ b o, b ≠ e → h₁.get? b = some o → h₇.get? b = some o := fun b o be hb => up₇ b o be (up₄ b o be hb)
      refine wpAny_bind (wpAny_letGo (wpAny_pure ⟨_, rfl, hQ h₁ h₇ f0' b1' sz₁ t₁ k₁ up he₇ (up _ _ ez.symm z₁) gf₁ (up _ _ eTI.symm hTI₁) ?_ (it1₁.at fun o q => up _ o e1.symm q) (it2₁.at fun o q => up _ o e2.symm q) (up _ _ (Nat.ne_of_gt hel) t₁) (up₇ _ _ (Nat.ne_of_gt (Nat.lt_succ_of_lt hel)) ht₄) ?_ ?_⟩))
      · obtain ⟨a', b', p'⟩ := p₁
        exact ⟨a', b', up _ _ eTO.symm p'⟩
      · rw [hs₇.1, hs₆.1, hs₅.1, hz₄]
      · exact fun b o be b1 b2 b3 b4 hb => up b o be (k₁ b o b1 b2 b3 b4 hb)
theorem pyNext_enumzip_item {e z TI TO i1 i2 l1 l2 : Addr} {c : Int} {k1 k2 : Nat} {xs ys : Array Value} {x y a b f0 old : Value} {b1 : Bool} {Q : Option Value → Shared → Prop} (D : ZipApart z TI TO i1 i2 l1 l2)
    (ez : e ≠ z) (eTI : e ≠ TI) (eTO : e ≠ TO) (e1 : e ≠ i1) (e2 : e ≠ i2)
    (he : IsEnum s.heap e z c old) (hz : IsZ s.heap z TI TO f0 b1) (hf : GoodF f0) (hTI : IsPair s.heap TI (.ref i1) (.ref i2)) (hTO : IsPair s.heap TO a b)
    (h1 : s.heap.IsListIter i1 l1 k1) (h2 : s.heap.IsListIter i2 l2 k2) (hl1 : s.heap.IsList l1 xs) (hl2 : s.heap.IsList l2 ys) (hx : xs[k1]? = some x) (hy : ys[k2]? = some y)
    (hQ : ∀ h₁ h' f0' b1', h₁.objs.size = s.heap.objs.size + 1 → IsPair h₁ s.heap.objs.size x y → (∀ b o, b ≠ z → b ≠ TO → b ≠ i1 → b ≠ i2 → s.heap.get? b = some o → h₁.get? b = some o) → (∀ b o, b ≠ e → h₁.get? b = some o → h'.get? b = some o) → IsEnumOut h' e z (c + 1) (.ref s.heap.objs.size) (s.heap.objs.size + 1) → IsZ h' z TI TO f0' b1' → GoodF f0' → IsPair h' TI (.ref i1) (.ref i2) → (∃ a b, IsPair h' TO a b) → h'.IsListIter i1 l1 (k1 + 1) → h'.IsListIter i2 l2 (k2 + 1) → IsPair h' s.heap.objs.size x y →
      h'.get? (s.heap.objs.size + 1) = some { cls := .type "tuple", data := .seq #[.int c s.toks, .ref s.heap.objs.size] } → h'.objs.size = s.heap.objs.size + 2 →
      (∀ b o, b ≠ e → b ≠ z → b ≠ TO → b ≠ i1 → b ≠ i2 → s.heap.get? b = some o → h'.get? b = some o) → Q (some (.ref (s.heap.objs.size + 1))) { s with heap := h', toks := s.toks + 1 }) :
    wpAny (model prog w) A (pyNext (.ref e)) Q E s := by
  have hT : s.TypeIs (.ref e) "enumerate" := ⟨_, he, rfl⟩
  unfold pyNext
  exact wpAny_bind (wpAny_attempt (wpAny_callSpecial?_slot (name := Str.ofString "__next__") hT F.slot_enumerate_next
    (wpAny_call_entry F.slot_enumerate_next hT F.entry_enumerate_next
      (enum_zip_item D ez eTI eTO e1 e2 he hz hf hTI hTO h1 h2 hl1 hl2 hx hy fun h₁ h' f b q1 q2 q3 q4 a0 a1 a2 a3 a4 a5 a6 a7 a8 a9 a10 => wpAny_pure (hQ h₁ h' f b q1 q2 q3 q4 a0 a1 a2 a3 a4 a5 a6 a7 a8 a9 a10)) (F.args_enumerate_next_1 _))))
theorem pyNext_enumzip_end {e z TI TO i1 i2 l1 l2 : Addr} {c : Int} {k1 k2 : Nat} {xs ys : Array Value} {a b f0 old : Value} {b1 : Bool} {Q : Option Value → Shared → Prop} (hh : A.handled = none) (D : ZipApart z TI TO i1 i2 l1 l2)
    (he : IsEnum s.heap e z c old) (hz : IsZ s.heap z TI TO f0 b1) (hf : GoodF f0) (hTI : IsPair s.heap TI (.ref i1) (.ref i2)) (hTO : IsPair s.heap TO a b)
    (h1 : s.heap.IsListIter i1 l1 k1) (h2 : s.heap.IsListIter i2 l2 k2) (hl1 : s.heap.IsList l1 xs) (hl2 : s.heap.IsList l2 ys) (hend : xs[k1]? = none ∨ ys[k2]? = none)
    (hQ : ∀ h', (∀ c o, c ≠ z → c ≠ TO → c ≠ i1 → c ≠ i2 → s.heap.get? c = some o → h'.get? c = some o) → Q none { s with heap := h' }) : wpAny (model prog w) A (pyNext (.ref e)) Q E s := by
  have hT : s.TypeIs (.ref e) "enumerate" := ⟨_, he, rfl⟩
  unfold pyNext
  refine wpAny_bind (wpAny_attempt (wpAny_callSpecial?_slot (name := Str.ofString "__next__") hT F.slot_enumerate_next
    (wpAny_call_entry F.slot_enumerate_next hT F.entry_enumerate_next ?_ (F.args_enumerate_next_1 _))))
  show wpAny _ _ (field (.ref e) 2 >>= _) _ _ _
  refine wpAny_bind (wpAny_field he rfl (x := .ref z) rfl ?_)
  refine wpAny_bind (nextOf_zip_end hh D hz hf hTI hTO h1 h2 hl1 hl2 hend fun h' x he' hx' => ?_)
  obtain ⟨o, ho, hc⟩ := hx'
  refine wpAny_bind (wpAny_isInstance (T := "StopIteration") (b := true) ⟨o, ho, hc⟩ isSubtype_stop ?_)
  exact wpAny_pure (hQ _ he')
end
/-- the pairs of the lists at a and b, each in a new pair behind a count from c on -/
def IteZ (K : PySem.W.Frag) (a b : Addr) (c : Int) : L2.It where
  go := fun i H => ∃ (xs ys : List V) (x y : V), SqL K H a xs ∧ SqL K H b ys ∧ xs[i]? = some x ∧ ys[i]? = some y
  yld := fun i H v H' => ∃ T U x y, v = .ref T ∧ H U = none ∧ (upd H U (.tup [x, y])) T = none ∧ H' = upd (upd H U (.tup [x, y])) T (.tup [.int (c + (i : Nat)), .ref U]) ∧ (∀ xs, SqL K H a xs → xs[i]? = some x) ∧ ∀ ys, SqL K H b ys → ys[i]? = some y
  stop := fun i H => ∃ xs ys : List V, SqL K H a xs ∧ SqL K H b ys ∧ (xs.length ≤ i ∨ ys.length ≤ i)
structure Ap (e z TI TO i1 i2 : Addr) : Prop where
  ez : e ≠ z
  eTI : e ≠ TI
  eTO : e ≠ TO
  e1 : e ≠ i1
  e2 : e ≠ i2
theorem turn_enumZ {P : Program} {w : World} {K : PySem.W.Frag} {elts : List Expr} {kk : Nat} {tpos : Pos} {a b e z TI TO i1 i2 : Addr} {c : Int} (D : ZipApart z TI TO i1 i2 a b) (ap : Ap e z TI TO i1 i2) :
    Turn P w K (.Tuple elts kk tpos) (IteZ K a b c) [e, z, TI, TO, i1, i2] e (fun i h => (∃ old, IsEnum h e z (c + (i : Nat)) old) ∧ (∃ f0 b1, IsZ h z TI TO f0 b1 ∧ GoodF f0) ∧ IsPair h TI (.ref i1) (.ref i2) ∧ (∃ x y, IsPair h TO x y) ∧ h.IsListIter i1 a i ∧ h.IsListIter i2 b i) where
  mem := by simp
  obj := fun i h st d hd => by
    obtain ⟨⟨old, he⟩, ⟨f0, b1, hz, _⟩, hTI, ⟨x, y, hTO⟩, ⟨o1, e1, _, d1⟩, ⟨o2, e2, _, d2⟩⟩ := st
    have e' : d = e ∨ d = z ∨ d = TI ∨ d = TO ∨ d = i1 ∨ d = i2 := by simpa using hd
    rcases e' with q | q | q | q | q | q
    · rw [q]; exact ⟨_, he, fun v q => nomatch q⟩
    · rw [q]; exact ⟨_, hz, fun v q => nomatch q⟩
    · rw [q]; exact ⟨_, hTI, fun v q => nomatch q⟩
    · rw [q]; exact ⟨_, hTO, fun v q => nomatch q⟩
    · rw [q]; exact ⟨o1, e1, fun v q => by rw [d1] at q; cases q⟩
    · rw [q]; exact ⟨o2, e2, fun v q => by rw [d2] at q; cases q⟩
  keep := fun i h h' st k => by
    obtain ⟨⟨old, he⟩, ⟨f0, b1, hz, gf⟩, hTI, ⟨x, y, hTO⟩, h1, h2⟩ := st
    exact ⟨⟨old, k e (by simp) _ he⟩, ⟨f0, b1, k z (by simp) _ hz, gf⟩, k TI (by simp) _ hTI, ⟨x, y, k TO (by simp) _ hTO⟩, h1.at fun o q => k i1 (by simp) o q, h2.at fun o q => k i2 (by simp) o q⟩
  item := by
    intro X hP hw hK hc i pins s σ H E I hf st hg
    subst hP hw hK
    obtain ⟨⟨old, he⟩, ⟨f0, b1, hz, gf⟩, hTI, ⟨x0, y0, hTO⟩, h1, h2⟩ := st
    obtain ⟨xs, ys, x, y, hqx, hqy, hx, hy⟩ := hg
    obtain ⟨its, rv, p, _⟩ := I.list hqx
    obtain ⟨its2, rv2, p2, _⟩ := I.list hqy
    obtain ⟨u, hu, ru⟩ := rv.get hx
    obtain ⟨u2, hu2, ru2⟩ := rv2.get hy
    have hel : e < s.heap.objs.size := Heap.lt_size he
    refine pyNext_enumzip_item D ap.ez ap.eTI ap.eTO ap.e1 ap.e2 he hz gf hTI hTO h1 h2 p.isList p2.isList (x := u) (y := u2) (by simpa using hu) (by simpa using hu2) fun h₁ h' f0' b1' sz₁ t₁ k₁ k₂ ho z' gf' TI' TO' h1' h2' hU hT hsz hk => ?_
    refine ⟨_, rfl, wpAny_letOwnedTupleGo_enum (s := { s with heap := h', toks := s.toks + 1 }) ho fun h'' he' sb => ?_⟩
    have hT2 : h''.get? (s.heap.objs.size + 1) = some { cls := .type "tuple", data := .seq #[.int (c + (i : Nat)) s.toks, .ref s.heap.objs.size] } := (sb.2 _ (Nat.ne_of_gt (Nat.lt_succ_of_lt hel))).trans hT
    have new1 : ObjOk X.prog X.w (upd H s.heap.objs.size (.tup [x, y])) h₁ s.heap.objs.size (.tup [x, y]) :=
      ⟨by show 2 ≤ sizeLine; decide, [u, u2], .cons ru (.cons ru2 .nil), ⟨_, t₁, rfl, _, rfl⟩⟩
    have I1 : Inv X pins σ (upd H s.heap.objs.size (.tup [x, y])) { s with heap := h₁ } :=
      I.turnedNew (t' := s.toks) (ch := [e, z, TI, TO, i1, i2]) (fun d o hb q => k₁ d o (fun q' => hb (by simp [q'])) (fun q' => hb (by simp [q'])) (fun q' => hb (by simp [q'])) (fun q' => hb (by simp [q'])) q) hf (Nat.le_refl _) new1
    have hf1 : ∀ d ∈ [e, z, TI, TO, i1, i2], FpOk X pins (upd H s.heap.objs.size (.tup [x, y])) d := fun d hd => by
      have hlt : d < s.heap.objs.size := by
        have e' : d = e ∨ d = z ∨ d = TI ∨ d = TO ∨ d = i1 ∨ d = i2 := by simpa using hd
        rcases e' with q | q | q | q | q | q
        · rw [q]; exact hel
        · rw [q]; exact Heap.lt_size hz
        · rw [q]; exact Heap.lt_size hTI
        · rw [q]; exact Heap.lt_size hTO
        · rw [q]; obtain ⟨_, e1, _⟩ := h1; exact Heap.lt_size e1
        · rw [q]; obtain ⟨_, e2, _⟩ := h2; exact Heap.lt_size e2
      obtain ⟨f0, fr⟩ := hf d hd
      exact ⟨by rw [upd_ne (Nat.ne_of_lt hlt)]; exact f0, fr⟩
    have hU1 : (upd H s.heap.objs.size (.tup [x, y])) (s.heap.objs.size + 1) = none := I1.hok.fresh (by show h₁.objs.size ≤ _; rw [sz₁]; exact Nat.le_refl _)
    have new2 : ObjOk X.prog X.w (upd (upd H s.heap.objs.size (.tup [x, y])) (s.heap.objs.size + 1) (.tup [.int (c + (i : Nat)), .ref s.heap.objs.size])) h'' (s.heap.objs.size + 1) (.tup [.int (c + (i : Nat)), .ref s.heap.objs.size]) :=
      ⟨by show 2 ≤ sizeLine; decide, [.int (c + (i : Nat)) s.toks, .ref s.heap.objs.size], .cons ⟨_, rfl⟩ (.cons rfl .nil), ⟨_, hT2, rfl, _, rfl⟩⟩
    have I2 : Inv X pins σ (upd (upd H s.heap.objs.size (.tup [x, y])) (s.heap.objs.size + 1) (.tup [.int (c + (i : Nat)), .ref s.heap.objs.size])) { s with heap := h'', toks := s.toks + 1 } :=
      I1.turnedNew (t' := s.toks + 1) (ch := [e, z, TI, TO, i1, i2]) (fun d o hb q => (sb.2 d (fun q' => hb (by simp [q']))).trans (k₂ d o (fun q' => hb (by simp [q'])) q)) hf1 (by show h₁.objs.size ≤ _; rw [sz₁]; exact Nat.le_refl _) new2
    refine ⟨.ref (s.heap.objs.size + 1), _, I2, rfl, ⟨_, s.heap.objs.size, x, y, rfl, I.hok.fresh (Nat.le_refl _), hU1, rfl, fun l hl => by rw [I.list_inj hl hqx]; exact hx, fun l hl => by rw [I.list_inj hl hqy]; exact hy⟩, ⟨⟨.ref s.heap.objs.size, ?_⟩, ⟨f0', b1', ?_, gf'⟩, ?_, ?_, ?_, ?_⟩, fun d hd => ?_⟩
    · have e1 : c + ((i + 1 : Nat) : Int) = c + (i : Nat) + 1 := by omega
      rw [e1]; exact he'
    · exact (sb.2 _ ap.ez.symm).trans z'
    · exact (sb.2 _ ap.eTI.symm).trans TI'
    · obtain ⟨x', y', q⟩ := TO'
      exact ⟨x', y', (sb.2 _ ap.eTO.symm).trans q⟩
    · exact h1'.at fun o q => (sb.2 _ ap.e1.symm).trans q
    · exact h2'.at fun o q => (sb.2 _ ap.e2.symm).trans q
    · have hlt : d < s.heap.objs.size := by
        have e' : d = e ∨ d = z ∨ d = TI ∨ d = TO ∨ d = i1 ∨ d = i2 := by simpa using hd
        rcases e' with q | q | q | q | q | q
        · rw [q]; exact hel
        · rw [q]; exact Heap.lt_size hz
        · rw [q]; exact Heap.lt_size hTI
        · rw [q]; exact Heap.lt_size hTO
        · rw [q]; obtain ⟨_, e1, _⟩ := h1; exact Heap.lt_size e1
        · rw [q]; obtain ⟨_, e2, _⟩ := h2; exact Heap.lt_size e2
      rw [upd_ne (Nat.ne_of_lt (Nat.lt_succ_of_lt hlt))]
      exact (hf1 d hd).1
  done := by
    intro X hP hw hK hc i pins s σ H E I hf st hg
    subst hP hw hK
    obtain ⟨⟨old, he⟩, ⟨f0, b1, hz, gf⟩, hTI, ⟨x0, y0, hTO⟩, h1, h2⟩ := st
    obtain ⟨xs, ys, hqx, hqy, hend⟩ := hg
    obtain ⟨its, rv, p, _⟩ := I.list hqx
    obtain ⟨its2, rv2, p2, _⟩ := I.list hqy
    have l1 := rv.length
    have l2 := rv2.length
    have he2 : its.toArray[i]? = none ∨ its2.toArray[i]? = none := by
      rcases hend with q | q
      · exact .inl (by simp; omega)
      · exact .inr (by simp; omega)
    exact pyNext_enumzip_end (I.ok.hd hc) D he hz gf hTI hTO h1 h2 p.isList p2.isList he2 fun h' hk => ⟨rfl, I.turnedL (t' := s.toks) (ch := [e, z, TI, TO, i1, i2]) (fun c o hb q =>
      hk c o (fun q' => hb (by simp [q'])) (fun q' => hb (by simp [q'])) (fun q' => hb (by simp [q'])) (fun q' => hb (by simp [q'])) q) hf⟩
  self := fun A i s Q E ⟨⟨_, he⟩, _⟩ h => wpAny_pyIter_enum he h
set_option maxHeartbeats 4000000 in
theorem meets_enumerate_newZ (z TI TO : Addr) (k : Int) (t : Tok) (hfit : Builtin.SmallTypes.fitsIndex k = true) :
    Meets (Builtin.«enumerate.__new__» ⟨[.type "enumerate", .ref z], [(Str.ofString "start", .int k t)]⟩) (fun _ R s => IsZip s.heap z TI TO .none ∧
      R (.ok (.ret (.ref s.heap.objs.size))) { s with heap := s.heap.push { cls := .type "enumerate", data := .fields #[.none, .bool false, .ref z, rawInt k, .none, .none] } }) :=
  .of_wp fun prog w A R s h => by
    obtain ⟨hp, g, d, tk, os⟩ := s; obtain ⟨h1, h⟩ := h
    have hsub := sub_enumerate
    have hnf : (!Builtin.SmallTypes.fitsIndex k) = false := by rw [hfit]; rfl
    have q1 : ∀ {A' : Around} {E : Value → Shared → Prop} {Q : Value → Shared → Prop}, Q (.ref z) ⟨hp, g, d, tk, os⟩ → wpAny (model prog w) A' (pyIter (.ref z)) Q E ⟨hp, g, d, tk, os⟩ :=
      fun q => wpAny_pyIter_zip h1 q
    have e1 : (Str.ofString "start" == ("start" : Str)) = true := by decide +kernel
    have e2 : (Str.ofString "start" != ("start" : Str)) = false := by decide +kernel
    have e3 : (Str.ofString "start" != ("iterable" : Str)) = true := by decide +kernel
    have e4 : (("start" : Str) == Str.ofString "start") = true := by decide +kernel
    have e5 : (("iterable" : Str) == Str.ofString "start") = false := by decide +kernel
    wp_walk using q1
    refine wpAny_stack_any fun st => wpAny_pure ?_
    split
    · rename_i c _ _ _ _ _
      cases (c == Value.type "enumerate")
      · wp_walk using q1
        exact ⟨_, rfl, h⟩
      · wp_walk using q1
        exact ⟨_, rfl, h⟩
    · wp_walk using q1
      exact ⟨_, rfl, h⟩
theorem enum_starts_zip {prog : Program} {w : World} {A : Around} {E : Value → Shared → Prop} {s : Shared} {z TI TO : Addr} {k : Int} {t : Tok} {Q : Value → Shared → Prop} (h1 : IsZip s.heap z TI TO .none) (hk0 : -(2 ^ 63) ≤ k) (hk1 : k < 2 ^ 63)
    (h : ∀ h', IsEnum h' s.heap.objs.size z k .none → (∀ b o, s.heap.get? b = some o → h'.get? b = some o) → Q (.ref s.heap.objs.size) { s with heap := h' }) :
    wpAny (model prog w) A (call (.type "enumerate") [.ref z] [(Str.ofString "start", .int k t)]) Q E s := by
  refine callType_newKw F.called_enumerate (by decide) (F.typeCall_enumerate_start _ _) (F.newCall_enumerate_start _ _) (fun obj => F.args_object_init_start obj _ _) F.entry_enumerate_new
    (meets_enumerate_newZ z TI TO k t (fits_start hk0 hk1)) ⟨h1, ?_⟩
  have he : IsEnum (s.heap.push { cls := .type "enumerate", data := .fields #[.none, .bool false, .ref z, rawInt k, .none, .none] }) s.heap.objs.size z k .none :=
    Heap.get?_push_size s.heap (o := { cls := .type "enumerate", data := .fields #[.none, .bool false, .ref z, rawInt k, .none, .none] }) rfl
  exact ⟨⟨_, he, rfl⟩, h _ he fun b o x => Heap.get?_push_of_some _ x⟩
section
variable {X : Cx}
def iEnumZ (K : PySem.W.Frag) (t tk : TA) : TI := fun σ H R => t σ H fun vs H1 => ∃ a b xs ys, vs = [.ref a, .ref b] ∧ SqL K H1 a xs ∧ SqL K H1 b ys ∧ tk σ H1 fun zs H2 => ∃ c, zs = [.int c] ∧ 0 ≤ c ∧ c < 2 ^ 62 ∧ R (IteZ K a b c) H2
theorem pi_enumZ {e1 e2 : Expr} {kws : List Keyword} {t tk : TA} {p pz pos posz tpos : Pos} {elts : List Expr} {kk : Nat} (hg : Gl X "enumerate") (hm : X.mg "enumerate" = none) (hgz : Gl X "zip") (hmz : X.mg "zip" = none) (ha : PA X [e1, e2] t) (hk : PK X kws tk)
    (hs : starEach [e1, e2] X.env = (false, eval e1 X.env) :: starEach [e2] X.env := by rfl) (hplz : (backTo posz (starEach [e2] X.env)).any (·.1) = false := by rfl)
    (he : backTo pos (starEach [.Call (.Name "zip" pz) [e1, e2] [] posz] X.env) = (false, eval (.Call (.Name "zip" pz) [e1, e2] [] posz) X.env) :: backTo pos (starEach [] X.env) := by rfl) (hpl : (backTo pos (starEach [.Call (.Name "zip" pz) [e1, e2] [] posz] X.env)).any (·.1) = false := by rfl)
    (hall : (backToKw pos (keywordEach kws X.env)).all (·.1.isSome) = true := by rfl) (hnone : (backToKw pos (keywordEach kws X.env)).any (·.1.isNone) = false := by rfl) (hks : (backToKw pos (keywordEach kws X.env)).filterMap (·.1) = [Str.ofString "start"] := by rfl) :
    PI X (.Tuple elts kk tpos) (.Call (.Name "enumerate" p) [.Call (.Name "zip" pz) [e1, e2] [] posz] kws pos) (iEnumZ X.K t tk) := by
  refine ⟨fun pins s σ H R I h => ?_⟩
  refine wpAny_Call_Name_kw (ld_blt I hg hm boot_enumerate ?_ (by decide) (by decide))
  refine EN.type_kw ?_ he hpl hall hnone
  rw [he]
  refine Calls.spliced_cons ?_
  refine Call_ (ld_blt I hgz hmz PyProof.Rows.boot_zip (PyProof.Rows.callWith_type1 (thn (ha.run posz pins s σ H _ I h) fun us s1 ⟨vs, H1, I1, r1, q1⟩ => ?_) hs hplz))
  obtain ⟨a, b, xs, ys, ex, hqx, hqy, q⟩ := q1
  subst ex
  cases r1 with
  | cons r rr =>
    cases rr with
    | cons r' rr =>
      cases rr
      cases r
      cases r'
      obtain ⟨its, rv, p1, _⟩ := I1.list hqx
      obtain ⟨its2, rv2, p2, _⟩ := I1.list hqy
      have la : a < s1.heap.objs.size := p1.lt
      have lb : b < s1.heap.objs.size := p2.lt
      refine call_zip_2 p1.isList p2.isList fun h' hz hTI hTO h1 h2 hsz hk1 => ?_
      have I2 : Inv X pins σ H1 { s1 with heap := h' } := I1.kept (t' := s1.toks) hk1
      have D := PySem.W.ktu_apart s1.heap.objs.size a b la lb
      obtain ⟨o1, g1, c1, d1⟩ := id h1
      obtain ⟨o2, g2, c2, d2⟩ := id h2
      generalize hz0 : s1.heap.objs.size + 4 = z at hz D
      generalize hTI0 : s1.heap.objs.size + 2 = TI at hz hTI D
      generalize hTO0 : s1.heap.objs.size + 3 = TO at hz hTO D
      generalize hi2 : s1.heap.objs.size + 1 = i2 at hTI h2 g2 D
      generalize hi1 : s1.heap.objs.size = i1 at hTI h1 g1 D la lb
      have young : ∀ d, d = z ∨ d = TI ∨ d = TO ∨ d = i1 ∨ d = i2 → s1.heap.objs.size ≤ d := fun d hd => by
        rcases hd with e | e | e | e | e
        · rw [e, ← hz0]; exact Nat.le_add_right _ _
        · rw [e, ← hTI0]; exact Nat.le_add_right _ _
        · rw [e, ← hTO0]; exact Nat.le_add_right _ _
        · rw [e, ← hi1]; exact Nat.le_refl _
        · rw [e, ← hi2]; exact Nat.le_add_right _ _
      have fr : ∀ d, d = z ∨ d = TI ∨ d = TO ∨ d = i1 ∨ d = i2 → FpOk X pins H1 d := fun d hd => I1.fpOk (young d hd) (I1.hok.fresh (young d hd))
      have pin : ∀ (d : Addr) (o : Obj), (d = z ∨ d = TI ∨ d = TO ∨ d = i1 ∨ d = i2) → h'.get? d = some o → (∀ v, o.data ≠ .cell v) → h'.get? d = some o ∧ H1 d = none ∧ d ≠ X.env.locals ∧ d ∉ X.fs ∧ ∀ v, o.data ≠ .cell v := fun d o hd hg hv =>
        ⟨hg, (fr d hd).1, (fr d hd).2.1, (fr d hd).2.2.1, hv⟩
      obtain ⟨oz, ez, dz⟩ : ∃ o : Obj, h'.get? z = some o ∧ (∀ v, o.data ≠ .cell v) := ⟨_, hz, fun v q => nomatch q⟩
      obtain ⟨oTI, eTI, dTI⟩ : ∃ o : Obj, h'.get? TI = some o ∧ (∀ v, o.data ≠ .cell v) := ⟨_, hTI, fun v q => nomatch q⟩
      obtain ⟨oTO, eTO, dTO⟩ : ∃ o : Obj, h'.get? TO = some o ∧ (∀ v, o.data ≠ .cell v) := ⟨_, hTO, fun v q => nomatch q⟩
      have I3 : Inv X (pins ++ [(z, oz), (TI, oTI), (TO, oTO), (i1, o1), (i2, o2)]) σ H1 { s1 with heap := h' } := I2.pins_of fun pr hp => by
        rcases List.mem_append.mp hp with e | e
        · have := I2.pin pr (List.mem_append_right _ e); exact this
        · simp only [List.mem_cons, List.not_mem_nil, or_false] at e
          rcases e with e | e | e | e | e
          · rw [e]; exact pin z _ (.inl rfl) ez dz
          · rw [e]; exact pin TI _ (.inr (.inl rfl)) eTI dTI
          · rw [e]; exact pin TO _ (.inr (.inr (.inl rfl))) eTO dTO
          · rw [e]; exact pin i1 _ (.inr (.inr (.inr (.inl rfl)))) g1 (fun v q => by rw [d1] at q; cases q)
          · rw [e]; exact pin i2 _ (.inr (.inr (.inr (.inr rfl)))) g2 (fun v q => by rw [d2] at q; cases q)
      refine Calls.spliced_nil (thn (hk.run pos _ _ σ H1 _ I3 q) fun ws s3 ⟨zs, H3, I4, r2, c, e3, k0, k1, q3⟩ => ?_)
      rw [hks]
      subst e3
      obtain ⟨w1, rfl, t1, rfl⟩ := vals1 r2
      have P := fun pr hp => I4.pin pr (List.mem_append_right X.pn (List.mem_append_right pins hp))
      have z3 := P (z, oz) (by simp)
      have TI3 := P (TI, oTI) (by simp)
      have TO3 := P (TO, oTO) (by simp)
      have z3z : IsZip s3.heap z TI TO .none := z3.1.trans (ez.symm.trans hz)
      have TI3z : IsPair s3.heap TI (.ref i1) (.ref i2) := TI3.1.trans (eTI.symm.trans hTI)
      have TO3z : IsPair s3.heap TO .none .none := TO3.1.trans (eTO.symm.trans hTO)
      have i13 := P (i1, o1) (by simp)
      have i23 := P (i2, o2) (by simp)
      have I5 : Inv X pins σ H3 s3 := I4.pins_of fun pr hp => I4.pin pr (List.mem_append_right _ (List.mem_append_left _ hp))
      show wpAny (model X.prog X.w) X.A (call (.type "enumerate") [.ref z] [(Str.ofString "start", .int c t1)]) _ _ _
      refine enum_starts_zip z3z (by omega) (by omega) fun h4 hE hk4 => wpAny_pyIter_enum hE ?_
      have I6 : Inv X pins σ H3 { s3 with heap := h4 } := I5.kept (t' := s3.toks) hk4
      have ap : Ap s3.heap.objs.size z TI TO i1 i2 := ⟨Nat.ne_of_gt (Heap.lt_size z3.1), Nat.ne_of_gt (Heap.lt_size TI3.1), Nat.ne_of_gt (Heap.lt_size TO3.1), Nat.ne_of_gt (Heap.lt_size i13.1), Nat.ne_of_gt (Heap.lt_size i23.1)⟩
      have z0 : c + ((0 : Nat) : Int) = c := by omega
      refine ⟨s3.heap.objs.size, [s3.heap.objs.size, z, TI, TO, i1, i2], _, _, H3, rfl, I6, turn_enumZ D ap, ⟨⟨.none, by rw [z0]; exact hE⟩, ⟨.none, false, hk4 _ _ z3z, .inl rfl⟩, hk4 _ _ TI3z, ⟨_, _, hk4 _ _ TO3z⟩, ⟨o1, hk4 _ _ i13.1, c1, d1⟩, ⟨o2, hk4 _ _ i23.1, c2, d2⟩⟩, fun d hd => ?_, q3⟩
      have e' : d = s3.heap.objs.size ∨ d = z ∨ d = TI ∨ d = TO ∨ d = i1 ∨ d = i2 := by simpa using hd
      rcases e' with e | e | e | e | e | e
      · rw [e]; exact I5.fpOk (Nat.le_refl _) (I5.hok.fresh (Nat.le_refl _))
      · exact I1.fpOk (young d (.inl e)) (by rw [e]; exact z3.2.1)
      · exact I1.fpOk (young d (.inr (.inl e))) (by rw [e]; exact TI3.2.1)
      · exact I1.fpOk (young d (.inr (.inr (.inl e)))) (by rw [e]; exact TO3.2.1)
      · exact I1.fpOk (young d (.inr (.inr (.inr (.inl e))))) (by rw [e]; exact i13.2.1)
      · exact I1.fpOk (young d (.inr (.inr (.inr (.inr e))))) (by rw [e]; exact i23.2.1)
def YZ (c : Int) (xs ys : List V) : Nat → Hp → V → Hp → Prop := fun i H v H' => ∃ T U x y, v = .ref T ∧ H U = none ∧ (upd H U (.tup [x, y])) T = none ∧ H' = upd (upd H U (.tup [x, y])) T (.tup [.int (c + (i : Nat)), .ref U]) ∧ xs[i]? = some x ∧ ys[i]? = some y
theorem walk_enumZ {K : PySem.W.Frag} {a b : Addr} {c : Int} {xs ys : List V} (hl : xs.length = ys.length) : Walk (IteZ K a b c) xs.length (fun H => SqL K H a xs ∧ SqL K H b ys) (YZ c xs ys) :=
  ⟨fun i _ hi q => ⟨xs, ys, xs[i], ys[i]'(by omega), q.1, q.2, by simp [hi], by simp [show i < ys.length by omega]⟩, fun _ q => ⟨xs, ys, q.1, q.2, .inl (Nat.le_refl _)⟩,
    fun i H v H' _ q ⟨T, U, x, y, h1, h2, h3, h4, h5, h6⟩ => ⟨T, U, x, y, h1, h2, h3, h4, h5 xs q.1, h6 ys q.2⟩⟩
end
end EZ

/-! *d in a display, d a dict: its keys. -/
namespace DST
open PySem PySem.Spec PyProof.Rows L2 PySem.W
section
variable {prog : Program} {w : World} {A : Around} {E : Value → Shared → Prop} {s : Shared} {T : String} {r d : Addr} {n : Nat} {P : Nat → Value → Prop} {OK : Heap → Prop}
theorem code_collect {R : Result → Shared → Prop} (K : KdlSrc prog w T r d n P OK) (hh : A.handled = none) (hok : OK s.heap) (hn : n ≤ sizeLine)
    (hR : ∀ h' tk acc' c', (∀ b o, s.heap.get? b = some o → h'.get? b = some o) → h'.get? s.heap.objs.size = some { cls := .type "list", dict := none, data := .seq acc' c', slots := #[] } → ItemsOf P acc' n → R (.ok (.ret (.ref s.heap.objs.size))) { s with heap := h', toks := tk }) :
    codeAny (model prog w) A (.builtin "proto.collect" ⟨[.ref r], []⟩) R s := by
  have hlt := K.there _ hok
  refine codeAny_builtin PySem.F.entry_proto_collect ?_
  rw [Around.under_plainId PySem.F.plain_proto_collect _]
  show wpAny _ A.in1 (newList [] >>= fun l => again (.builtin "list.__iadd__" ⟨[l, .ref r], []⟩)) _ _ s
  refine wpAny_bind (wpAny_newObj_type ?_)
  refine wpAny_pure ⟨plainId_quiet PySem.F.plain_list_iadd _, codeAny_builtin PySem.F.entry_list_iadd ?_⟩
  rw [Around.under_plainId PySem.F.plain_list_iadd _]
  have hS : (s.heap.push { cls := .type "list", data := .seq ([] : List Value).toArray }).get? s.heap.objs.size = some { cls := .type "list", data := .seq ([] : List Value).toArray } := Heap.get?_push_size _ rfl
  show wpAny _ A.in1 (Builtin.List.listExtendWith (.ref s.heap.objs.size) (.ref r) (.ref s.heap.objs.size)) _ _ _
  exact kdl_extend (A := A) (R := R) (s := { s with heap := s.heap.push { cls := .type "list", data := .seq ([] : List Value).toArray } }) K hh (K.keep _ _ hok fun b _ o e => Heap.get?_push_of_some _ e) _ (Nat.ne_of_gt hlt.1) (Nat.ne_of_gt hlt.2) (.ref s.heap.objs.size) 0 hS (fun h' tk acc' c' hk hS' hacc => hR h' tk acc' c' (fun b o e => hk b o (Nat.ne_of_lt (Heap.lt_size e)) (Heap.get?_push_of_some _ e)) hS' hacc) hn
theorem collect_kdl {Q : List Value → Shared → Prop} (K : KdlSrc prog w T r d n P OK) (hh : A.handled = none) (hok : OK s.heap) (hn : n ≤ sizeLine)
    (hQ : ∀ h' tk acc, (∀ b o, s.heap.get? b = some o → h'.get? b = some o) → ItemsOf P acc n → Q acc.toList { s with heap := h', toks := tk }) : wpAny (model prog w) A (collect (.ref r)) Q E s := by
  unfold collect
  refine wpAny_bind (wpAny_runValue (code_collect K hh hok hn fun h' tk acc' c' hk hS' hacc => ?_))
  show wpAny _ A (load s.heap.objs.size >>= _) _ _ _
  refine wpAny_bind (wpAny_load hS' ?_)
  exact wpAny_pure (hQ h' tk acc' hk hacc)
end
section
variable {X : Cx} {pins : List (Addr × Obj)} {σ : L2.St} {H : Hp} {s : Shared}
theorem star_dk {a : Addr} {kvs : List (Key × V)} {E : Value → Shared → Prop} {Q : List Value → Shared → Prop} (hcalm : X.calm = true) (I : Inv X pins σ H s) (hd : Rd H a (.dK kvs)) (hQ : ∀ us s', Inv X pins σ H s' → Vals (kvs.map fun kv => kV kv.1) us → Q us s') : PySem.W.StarOf (model X.prog X.w) X.A E (.ref a) Q s := by
  obtain ⟨z, lo, vs, rel, dd⟩ := dk_rd I.hok hd
  obtain ⟨ep, hat⟩ := dd.dictAt
  have ek : (kvs.map fun kv => kV kv.1) = vs.map fun p => kV p.1 := by
    have e := congrArg (List.map kV) rel.keys
    rw [List.map_map, List.map_map] at e
    exact e
  have hT : s.TypeIs (.ref a) "dict" := hat.dictOf.typeIs
  have zz : wpAny (model X.prog X.w) X.A (collect (.ref a)) Q E s := by
    refine collect_kdl (PySem.W.kdl_dict (knd := mixKind X.prog X.w) (kvs := vs) (ep := ep) lo) (I.ok.hd hcalm) hat (by rw [← rel.length]; exact z) fun h' tk acc hk hacc => ?_
    have hv : Vals (vs.map fun p => kV p.1) acc.toList := keys_at (by rw [Array.length_toList]; exact hacc.1) fun j v e => hacc.2 j v (by rw [← Array.getElem?_toList]; exact e)
    exact hQ _ _ (I.kept (t' := tk) hk) (by rw [ek]; exact hv)
  unfold PySem.W.StarOf notIterableAtAll
  exact wpAny_bind (wpAny_specialOf hT PySem.F.slot_dict_iter.lookup (wpAny_pure ⟨rfl, zz⟩))
end
def tStarK (te : TE) (t : TA) : TA := fun σ H Q => te σ H fun x H1 => ∃ a kvs, x = V.ref a ∧ Rd H1 a (.dK kvs) ∧ t σ H1 fun ys H2 => Q ((kvs.map fun kv => kV kv.1) ++ ys) H2
section
variable {X : Cx} {e : Expr} {es : List Expr} {te : TE} {t : TA} {p : Pos}
theorem pa_starK (hcalm : X.calm = true) (he : PE X e te) (hr : PA X es t) (hs : starEach (.Starred e p :: es) X.env = (true, eval e X.env) :: starEach es X.env := by rfl) : PA X (.Starred e p :: es) (tStarK te t) := by
  refine ⟨fun pos pins s σ H Q I h => ?_⟩
  refine PySem.W.items_star (thn (he.run pins s σ H _ I h) fun v s1 ⟨y, H1, I1, ry, a, kvs, ey, hd, q⟩ => ?_) hs
  subst ey
  obtain rfl : v = Value.ref a := ry
  refine star_dk hcalm I1 hd fun us s2 I2 rv => ?_
  exact thn (hr.run pos pins s2 σ H1 _ I2 q) fun ws s3 ⟨vs, H3, I3, r3, q3⟩ => ⟨(kvs.map fun kv => kV kv.1) ++ vs, H3, I3, rv.append r3, q3⟩
end
end DST

namespace K27
open PySem L2 SI CM BK OWN MIR StX TX TL
section
variable {w : World} {K : PySem.W.Frag} {mg : Str → Option Value} {base : Heap} (T : Txt w K mg)
structure Rq where
  k : Str
  n : Str
  v : Int
abbrev GRW : List Str := ["read", "put", "skip"]
def rqOf (i : Nat) (x : Stp) (o : Out) : List (Int × Rq) := match x with
  | .req k s n => if o.word ∈ GRW then [(s, ⟨k, n, if k = "write" then 1 + (i : Nat) else match o.val with | .int z => z | _ => 0⟩)] else []
  | _ => []
noncomputable def rqN (B : Bkm) (xs : List Stp) : Nat → List (Int × Rq)
  | 0 => []
  | i + 1 => rqN B xs i ++ match xs[i]? with | some x => rqOf i x (outN B xs i) | none => []
def ofT (L : List (Int × Rq)) (s : Int) : List Rq := (L.filter fun p => decide (p.1 = s)).map (·.2)
theorem rqN_at {B : Bkm} {xs : List Stp} {i : Nat} {x : Stp} (h : xs[i]? = some x) : rqN B xs (i + 1) = rqN B xs i ++ rqOf i x (outN B xs i) := by
  show rqN B xs i ++ (match xs[i]? with | some x => rqOf i x (outN B xs i) | none => []) = _
  rw [h]
theorem rqOf_len (i : Nat) (x : Stp) (o : Out) : (rqOf i x o).length ≤ 1 := by
  cases x with
  | req k s n =>
    show (if o.word ∈ GRW then _ else _ : List (Int × Rq)).length ≤ 1
    split
    · exact Nat.le_refl _
    · exact Nat.zero_le _
  | com s => exact Nat.zero_le _
  | abo s => exact Nat.zero_le _
theorem rqN_len (B : Bkm) (xs : List Stp) : ∀ n, (rqN B xs n).length ≤ n
  | 0 => Nat.le_refl _
  | i + 1 => by
    have := rqN_len B xs i
    cases h : xs[i]? with
    | none =>
      have e : rqN B xs (i + 1) = rqN B xs i := by
        show rqN B xs i ++ (match xs[i]? with | some x => rqOf i x (outN B xs i) | none => []) = _
        rw [h, List.append_nil]
      rw [e]; omega
    | some x =>
      rw [rqN_at h, List.length_append]
      have := rqOf_len i x (outN B xs i)
      omega
theorem ofT_app (L M : List (Int × Rq)) (s : Int) : ofT (L ++ M) s = ofT L s ++ ofT M s := by
  unfold ofT
  rw [List.filter_append, List.map_append]
theorem ofT_one (t s : Int) (r : Rq) : ofT [(t, r)] s = if t = s then [r] else [] := by
  unfold ofT
  by_cases c : t = s
  · rw [if_pos c]; simp [List.filter, c]
  · rw [if_neg c]; simp [List.filter, c]
theorem ofT_len (L : List (Int × Rq)) (s : Int) : (ofT L s).length ≤ L.length := by
  unfold ofT
  rw [List.length_map]; exact List.length_filter_le ..
def RqAt (H : Hp) (q : Addr) (r : Rq) : Prop := H q = some (.tup [.str r.k, .str r.n, .int r.v])
def PGr (H : Hp) (L : List (Int × Rq)) : Key → Option V → Prop
  | .inl s, some v => ∃ (q : Addr) (ps : List Addr), v = .ref q ∧ H q = some (.lst (ps.map V.ref)) ∧ F2 (RqAt H) ps (ofT L s) ∧ ofT L s ≠ []
  | .inl s, none => ofT L s = []
  | .inr _, o => o = none
theorem PGr.but {g : Addr} {H H' : Hp} {L : List (Int × Rq)} (s : ∀ b o, (∀ kvs, o ≠ .dK kvs) → H b = some o → H' b = some o) : ∀ k o, PGr H L k o → PGr H' L k o
  | .inl _, some _, ⟨q, ps, h1, h2, h3, h4⟩ => ⟨q, ps, h1, s _ _ (by intro kvs z; cases z) h2, h3.mono fun a b r => s _ _ (by intro kvs z; cases z) r, h4⟩
  | .inl _, none, h => h
  | .inr _, _, h => h
/-- all but dicts stays -/
def SameD (H H' : Hp) : Prop := ∀ b o, (∀ kvs, o ≠ .dK kvs) → H b = some o → H' b = some o
theorem SameD.of {H H' : Hp} (s : Same H H') : SameD H H' := fun b o _ h => s b o h
theorem SameD.trans {H H' H'' : Hp} (s : SameD H H') (t : SameD H' H'') : SameD H H'' := fun b o n h => t b o n (s b o n h)
theorem SameD.chg {H : Hp} {p : Addr} {kvs : List (Key × V)} {o : HO} (h : H p = some (.dK kvs)) : SameD H (upd H p o) := fun b x n z => by
  rw [upd_ne (fun q => by rw [q, h] at z; exact n kvs (Option.some.inj z).symm)]
  exact z
theorem take_grw {B : Bkm} {σ : MIR.S} {x : Stp} {v : Int} (h : (takeM B σ x v).2.word ∈ GRW) : ∃ k s n, x = .req k s n := by
  cases x with
  | req k s n => exact ⟨k, s, n, rfl⟩
  | com s =>
    exfalso
    unfold takeM at h
    split at h
    · exact absurd h (show ("void" : Str) ∉ GRW from by decide +kernel)
    · dsimp only at h
      split at h
      · exact absurd h (show ("wait" : Str) ∉ GRW from by decide +kernel)
      · exact absurd h (show ("commit" : Str) ∉ GRW from by decide +kernel)
  | abo s =>
    exfalso
    unfold takeM at h
    split at h
    · exact absurd h (show ("void" : Str) ∉ GRW from by decide +kernel)
    · exact absurd h (show ("abort" : Str) ∉ GRW from by decide +kernel)
theorem ask_grw {B : Bkm} {σ : MIR.S} {kd : Str} {s : Int} {n : Str} {v : Int} (hk : kd ∈ KINDS) (h : (askM B σ kd s n v).2.word ∈ GRW) : (kd = "write" ∧ (askM B σ kd s n v).2.word ≠ "read") ∨ (kd = "read" ∧ (askM B σ kd s n v).2.word = "read") := by
  have hk' : kd = "read" ∨ kd = "write" := by simpa [KINDS] using hk
  rw [ask_R] at h ⊢
  unfold askR at h ⊢
  split at h
  · exact absurd h (show ("wait" : Str) ∉ GRW from by decide +kernel)
  rename_i n1
  rw [if_neg n1]
  split at h
  · exact absurd h (show ("wound" : Str) ∉ GRW from by decide +kernel)
  rename_i n2
  rw [if_neg n2]
  split at h
  · exact absurd h (show ("abort" : Str) ∉ GRW from by decide +kernel)
  rename_i n3
  rw [if_neg n3]
  rcases hk' with e | e
  · rw [if_pos e]; exact .inr ⟨e, rfl⟩
  · have ne : ¬ kd = "read" := by rw [e]; decide +kernel
    rw [if_neg ne]
    refine .inl ⟨e, ?_⟩
    split
    · exact show ("skip" : Str) ≠ "read" from by decide +kernel
    · exact show ("put" : Str) ≠ "read" from by decide +kernel
theorem req_grw {B : Bkm} {σ : MIR.S} {kd : Str} {s : Int} {n : Str} {v : Int} (hk : kd ∈ KINDS) (h : (reqM B σ kd s n v).2.word ∈ GRW) : (kd = "write" ∧ (reqM B σ kd s n v).2.word ≠ "read") ∨ (kd = "read" ∧ (reqM B σ kd s n v).2.word = "read") := by
  by_cases c : (askM B σ kd s n v).2.word = "wound"
  · by_cases hs : s ∈ fal σ (hInt (σ.it n))
    · rw [reqM_self c hs] at h
      exact absurd h (show ("abort" : Str) ∉ GRW from by decide +kernel)
    · rw [reqM_two c hs] at h ⊢
      exact ask_grw hk h
  · rw [reqM_one c] at h ⊢
    exact ask_grw hk h
theorem out_grw {B : Bkm} (hf : ∀ x ∈ ENT, B.f x ∈ chs x) {xs : List Stp} (hk : ∀ x ∈ xs, KdOk x) {i : Nat} {x : Stp} (hx : xs[i]? = some x) (h : (outN B xs i).word ∈ GRW) :
    ∃ k s n, x = .req k s n ∧ k ∈ KINDS ∧ ((k = "write" ∧ (outN B xs i).word ≠ "read") ∨ (k = "read" ∧ (outN B xs i).word = "read" ∧ ∃ z, (outN B xs i).val = .int z)) := by
  have hi : i < xs.length := (List.getElem?_eq_some_iff.mp hx).1
  have vk := out_vkind hf hk hi
  rw [outN_at hx] at h vk ⊢
  obtain ⟨k, s, n, rfl⟩ := take_grw h
  have kk : k ∈ KINDS := hk _ (List.mem_of_getElem? hx)
  refine ⟨k, s, n, rfl, kk, ?_⟩
  unfold takeM at h vk ⊢
  split at h
  · exact absurd h (show ("void" : Str) ∉ GRW from by decide +kernel)
  rename_i nn
  rw [if_neg nn] at vk ⊢
  rcases req_grw kk h with ⟨a, b⟩ | ⟨a, b⟩
  · exact .inl ⟨a, b⟩
  · exact .inr ⟨a, b, vk.1 b⟩
theorem walk_enumZ2 {K : PySem.W.Frag} {a b : Addr} {c : Int} {xs ys : List V} (hl : ys.length ≤ xs.length) : Walk (EZ.IteZ K a b c) ys.length (fun H => SqL K H a xs ∧ SqL K H b ys) (EZ.YZ c xs ys) :=
  ⟨fun i _ hi q => ⟨xs, ys, xs[i]'(by omega), ys[i], q.1, q.2, by simp [show i < xs.length by omega], by simp [hi]⟩, fun _ q => ⟨xs, ys, q.1, q.2, .inr (Nat.le_refl _)⟩,
    fun i H v H' _ q ⟨T, U, x, y, h1, h2, h3, h4, h5, h6⟩ => ⟨T, U, x, y, h1, h2, h3, h4, h5 xs q.1, h6 ys q.2⟩⟩
def spGranted (K : PySem.W.Frag) : Sp := fun vs H Q _ => ∃ (a p : Addr) (ws : List V) (xs : List Stp) (B : Bkm) (ts : List Addr) (n : Nat), vs = [.ref a, .ref p] ∧ SqL K H a ws ∧ RunAt H ws xs ∧ (∀ x ∈ xs, KdOk x) ∧ (∀ x ∈ ENT, B.f x ∈ chs x) ∧ xs.length ≤ 300 ∧
  H p = some (.lst (ts.map V.ref)) ∧ F2 (fun q i => OutAt H q (outN B xs i)) ts (List.range n) ∧ n ≤ xs.length ∧ ∀ (H' : Hp) (g : Addr), Same H H' → H g = none → DR H' g (PGr H' (rqN B xs n)) → Q (.ref g) H'
theorem ok_requests_granted : FnOk PP w K mg base CX0 1 T.f_requests_granted T.d_requests_granted ["run", "outcomes"] (spGranted K) := by
  refine T.F_requests_granted.ok sc_requests_granted (fun vs H Q E h => ?_) (fun cdv A outer s H vs Q E hr h => ?_)
  · obtain ⟨a, p, ws, xs, B, ts, n, rfl, _⟩ := h
    rfl
  · obtain ⟨a, p, ws, xs, B, ts, n, rfl, hS, hR, hkd, hf, hl, hp, hts, hn, k⟩ := h
    refine ⟨_, pss_cons (ps_set (i := 2) sc_requests_granted.nd rfl (.inl rfl) pe_dnewK)
 (pss_cons (ps_for PassesOwn.never rfl (EZ.pi_enumZ (by rfl) T.n_enumerate (by rfl) T.n_zip (pa_cons (pv 0) (pa_cons (pv 1) pa_nil)) (pk_cons pe_int pk_nil)) (pg_tup rfl (pgs_cons (pg_name (i := 3) sc_requests_granted.nd rfl (.inl rfl)) (pgs_cons (pg_tup rfl (pgs_cons (pg_name (i := 4) sc_requests_granted.nd rfl (.inl rfl)) (pgs_cons (pg_name (i := 5) sc_requests_granted.nd rfl (.inl rfl)) pgs_nil))) pgs_nil)))
 (pss_cons (ps_asg (pv 5) (pg_tup rfl (pgs_cons (pg_name (i := 6) sc_requests_granted.nd rfl (.inl rfl)) (pgs_cons (pg_name (i := 7) sc_requests_granted.nd rfl (.inl rfl)) (pgs_cons (pg_name (i := 8) sc_requests_granted.nd rfl (.inl rfl)) (pgs_cons (pg_name (i := 7) sc_requests_granted.nd rfl (.inl rfl)) pgs_nil))))))
 (pss_cons (ps_if (pt_cmpR op_notIn_seq (pv 6) (pe_tup (pa_cons pe_str (pa_cons pe_str (pa_cons pe_str pa_nil)))) rfl)
 (pss_one ps_continue)
 pss_nil)
 (pss_cons (ps_asg (pv 4) (pg_tup rfl (pgs_cons (pg_name (i := 9) sc_requests_granted.nd rfl (.inl rfl)) (pgs_cons (pg_name (i := 10) sc_requests_granted.nd rfl (.inl rfl)) (pgs_cons (pg_name (i := 11) sc_requests_granted.nd rfl (.inl rfl)) pgs_nil)))))
 (C8.pss_cut (ps_if (pt_cmpR op_eq (pv 9) pe_str (nomark _))
 (pss_one (ps_set (i := 8) sc_requests_granted.nd rfl (.inl rfl) (pv 3)))
 pss_nil)
 (pss_cons (ps_set (i := 12) sc_requests_granted.nd rfl (.inl rfl) (pe_dget2 (hu_of hr) (pv 2) (pv 10) (pe_tup pa_nil) (by constructor <;> rfl)))
 (pss_one (ps_dput (hu_of hr) (pv 2) (pv 10) (pe_lst (pa_star (pv 12) (pa_cons (pe_tup (pa_cons (pv 9) (pa_cons (pv 11) (pa_cons (pv 8) pa_nil)))) pa_nil))) rfl))))))))
 (pss_one (ps_ret (pv 2)))), ?_⟩
    have zero : 0 ≤ sizeLine := by decide
    have two : 3 ≤ sizeLine := by decide
    have three : 3 ≤ sizeLine := by decide
    have lw : ws.length = xs.length := hR.len
    have lt : ts.length = n := by rw [hts.len, List.length_range]
    refine fun g ng => ?_
    have s0 : Same H (upd H g (.dK [])) := same_new (Same.refl H) ng
    have D0 : DR (upd H g (.dK [])) g (PGr (upd H g (.dK [])) (rqN B xs 0)) := dr_nil upd_same fun k => by cases k <;> rfl
    generalize upd H g (.dK []) = H1 at s0 D0
    have ltm : (ts.map V.ref).length ≤ ws.length := by rw [List.length_map]; omega
    refine ⟨_, rfl, _, rfl, a, p, ws, ts.map V.ref, rfl, s0.seq hS, SqL.of (s0 _ _ hp), 1, rfl, by decide, by decide, for_it (walk_enumZ2 ltm) (fun i τ H' => ∃ v3 v4 v5 v6 v7 v8 v9 v10 v11 v12, τ = [some (.ref a), some (.ref p), some (.ref g), v3, v4, v5, v6, v7, v8, v9, v10, v11, v12] ∧ Same H H' ∧ DR H' g (PGr H' (rqN B xs i)))
      ⟨none, none, none, none, none, none, none, none, none, none, rfl, s0, D0⟩ (fun i τ H' _ ⟨_, _, _, _, _, _, _, _, _, _, _, sm, _⟩ => ⟨sm.seq hS, SqL.of (sm _ _ hp)⟩) ?_ ?_⟩
    · rintro i x τ H2 H3 hi ⟨v3, v4, v5, v6, v7, v8, v9, v10, v11, v12, rfl, sm, D⟩ ⟨T', U, x1, y1, rfl, nU, nT, rfl, ex, ey⟩
      rw [List.length_map, lt] at hi
      obtain ⟨x, hx, q, rfl, hq⟩ := hR.at ex
      rw [List.getElem?_map] at ey
      cases hy : ts[i]? with
      | none => rw [hy] at ey; cases ey
      | some y =>
      rw [hy] at ey
      cases ey
      obtain ⟨j, ej, ho⟩ := hts.at hy
      obtain rfl : j = i := by
        have hi : i < (List.range n).length := (List.getElem?_eq_some_iff.mp ej).1
        rw [List.getElem?_eq_getElem hi, List.getElem_range] at ej
        exact (Option.some.inj ej).symm
      have s3 : Same H2 (upd (upd H2 U (.tup [.ref q, .ref y])) T' (.tup [.int (1 + ((j : Nat) : Int)), .ref U])) := (same_new (Same.refl H2) nU).trans (same_new (Same.refl _) nT)
      have hU : (upd (upd H2 U (.tup [.ref q, .ref y])) T' (.tup [.int (1 + ((j : Nat) : Int)), .ref U])) U = some (.tup [.ref q, .ref y]) := kp nT upd_same
      have hT : (upd (upd H2 U (.tup [.ref q, .ref y])) T' (.tup [.int (1 + ((j : Nat) : Int)), .ref U])) T' = some (.tup [.int (1 + ((j : Nat) : Int)), .ref U]) := upd_same
      have D3 : DR _ g (PGr _ (rqN B xs j)) := D.mono s3 (PGr.but (g := g) (SameD.of s3))
      generalize (upd (upd H2 U (.tup [.ref q, .ref y])) T' (.tup [.int (1 + ((j : Nat) : Int)), .ref U])) = H3 at s3 hU hT D3
      have sm3 := sm.trans s3
      obtain ⟨m, v, fl, h1, h2, h3, h4⟩ := ho.same sm3
      refine ⟨T', _, rfl, SqT.of hT, rfl, _, _, rfl, _, _, rfl, ⟨U, _, rfl, SqT.of hU, rfl, _, _, rfl, _, _, rfl, rfl, ?_⟩⟩
      refine ⟨rfl, _, rfl, y, _, rfl, SqT.of h1, rfl, _, _, rfl, _, _, rfl, _, _, rfl, _, _, rfl, rfl, ?_⟩
      refine ⟨_, rfl, three, fun t nt => ⟨t, _, rfl, .inr (SqT.of upd_same), rfl, rfl, _, rfl, ?_⟩⟩
      have s4 := same_new (o := .tup [.str "read", .str "put", .str "skip"]) (Same.refl H3) nt
      generalize upd H3 t (.tup [.str "read", .str "put", .str "skip"]) = H4 at s4
      have D4 : DR H4 g (PGr H4 (rqN B xs j)) := D3.mono s4 (PGr.but (g := g) (SameD.of s4))
      have sm4 := sm3.trans s4
      rw [show inV (V.str (outN B xs j).word) [V.str "read", V.str "put", V.str "skip"] = decide ((outN B xs j).word ∈ GRW) from inV_str (outN B xs j).word GRW]
      have er := rqN_at (B := B) hx
      by_cases c : (outN B xs j).word ∈ GRW
      case neg =>
        rw [decide_eq_false c]
        have e0 : rqN B xs (j + 1) = rqN B xs j := by
          rw [er]
          have : rqOf j x (outN B xs j) = [] := by cases x <;> first | exact if_neg c | rfl
          rw [this, List.append_nil]
        refine iteT ⟨_, _, _, _, _, _, _, _, _, _, rfl, sm4, ?_⟩
        rw [e0]; exact D4
      rw [decide_eq_true c]
      obtain ⟨kd, s', nm, rfl, hkd2, hw⟩ := out_grw hf hkd hx c
      have hq : H q = some (.tup [.str kd, .int s', .str nm]) := hq
      obtain ⟨rv, hrv, e1⟩ : ∃ rv : Int, rqOf j (.req kd s' nm) (outN B xs j) = [(s', ⟨kd, nm, rv⟩)] ∧ ((kd = "write" ∧ rv = 1 + (j : Nat)) ∨ (kd = "read" ∧ v = .int rv)) := by
        have e0 : rqOf j (.req kd s' nm) (outN B xs j) = [(s', ⟨kd, nm, if kd = "write" then 1 + (j : Nat) else match (outN B xs j).val with | .int z => z | _ => 0⟩)] := if_pos c
        refine ⟨_, e0, ?_⟩
        rcases hw with ⟨e, _⟩ | ⟨e, _, z, hz⟩
        · exact .inl ⟨e, if_pos e⟩
        · refine .inr ⟨e, ?_⟩
          rw [if_neg (by rw [e]; decide +kernel)]
          rw [hz] at h3 ⊢
          exact h3
      rw [hrv] at er
      refine iteF ⟨_, rfl, q, _, rfl, SqT.of (sm4 _ _ hq), rfl, _, _, rfl, _, _, rfl, _, _, rfl, rfl, ?_⟩
      refine ⟨fun τ H' => τ = [some (.ref a), some (.ref p), some (.ref g), some (.int (1 + ((j : Nat) : Int))), some (.ref q), some (.ref y), some (.str (outN B xs j).word), some (.ref fl), some (.int rv), some (.str kd), some (.int s'), some (.str nm), v12] ∧ H4 = H', ?_, ?_⟩
      · refine ⟨_, rfl, rfl, _, rfl, ?_⟩
        rw [ds]
        rcases e1 with ⟨e, ev⟩ | ⟨e, ev⟩
        · rw [decide_eq_true e]
          exact iteT ⟨_, rfl, by rw [ev]; rfl, rfl⟩
        · rw [decide_eq_false (by rw [e]; decide +kernel)]
          exact iteF ⟨by rw [ev]; rfl, rfl⟩
      rintro τ H' ⟨rfl, rfl⟩
      obtain ⟨kvs, hg, nd, hP⟩ := D4.ex
      have hPs := hP (.inl s')
      refine ⟨_, rfl, g, rfl, .inl ⟨kvs, .inl hg⟩, _, rfl, zero, fun t nt => ⟨_, DGet.k (k := Sum.inl s') (kp (o' := .tup []) nt hg), ?_⟩⟩
      have s5 := same_new (o := .tup []) (Same.refl H4) nt
      have ht5 : (upd H4 t (.tup [])) t = some (.tup []) := upd_same
      generalize upd H4 t (.tup []) = H5 at s5 ht5
      obtain ⟨qe, pe, hqe, hpe, hseq⟩ : ∃ (qe : Addr) (pe : List Addr), (valV kvs (Sum.inl s')).getD (.ref t) = .ref qe ∧ F2 (RqAt H5) pe (ofT (rqN B xs j) s') ∧ (SqT K H5 qe (pe.map V.ref) ∨ SqL K H5 qe (pe.map V.ref)) := by
        cases e0 : valV kvs (Sum.inl s') with
        | none => rw [e0] at hPs; exact ⟨t, [], rfl, by rw [show ofT (rqN B xs j) s' = [] from hPs]; exact .nil, .inl (SqT.of ht5)⟩
        | some w => rw [e0] at hPs; obtain ⟨q1, p1, rfl, h5, h6, _⟩ := hPs; exact ⟨q1, p1, rfl, h6.mono fun a b r => s5 _ _ r, .inr (SqL.of (s5 _ _ h5))⟩
      rw [hqe]
      have lpe : pe.length ≤ 300 := by
        have h5 := hpe.len; have h6 := ofT_len (rqN B xs j) s'; have h7 := rqN_len B xs j; omega
      refine ⟨_, rfl, qe, _, rfl, hseq, _, rfl, _, rfl, _, rfl, three, fun u nu => ?_⟩
      have s6 := same_new (o := .tup [.str kd, .str nm, .int rv]) s5 nu
      have hu6 : RqAt (upd H5 u (.tup [.str kd, .str nm, .int rv])) u ⟨kd, nm, rv⟩ := upd_same
      have hpe6 : F2 (RqAt (upd H5 u (.tup [.str kd, .str nm, .int rv]))) pe (ofT (rqN B xs j) s') := hpe.mono fun x r hr => kp nu hr
      generalize upd H5 u (.tup [.str kd, .str nm, .int rv]) = H6 at s6 hu6 hpe6
      refine ⟨by rw [List.length_append, List.length_map]; exact Nat.le_of_lt (small1000 (show pe.length + 1 ≤ 1000 by omega)), fun L nL => ?_⟩
      have el : pe.map V.ref ++ [V.ref u] = (pe ++ [u]).map V.ref := by rw [List.map_append]; rfl
      rw [el]
      have s7 := same_new (o := .lst ((pe ++ [u]).map V.ref)) s6 nL
      have hL7 : (upd H6 L (.lst ((pe ++ [u]).map V.ref))) L = some (.lst ((pe ++ [u]).map V.ref)) := upd_same
      have hpe7 : F2 (RqAt (upd H6 L (.lst ((pe ++ [u]).map V.ref)))) (pe ++ [u]) (ofT (rqN B xs (j + 1)) s') := by
        have e2 : ofT (rqN B xs (j + 1)) s' = ofT (rqN B xs j) s' ++ [⟨kd, nm, rv⟩] := by rw [er, ofT_app, ofT_one, if_pos rfl]
        rw [e2]
        exact (hpe6.snoc hu6).mono fun x r hr => kp nL hr
      generalize upd H6 L (.lst ((pe ++ [u]).map V.ref)) = H7 at s7 hL7 hpe7
      have hg7 := s7 _ _ hg
      have lk : kvs.length ≤ 300 := by
        have := len_keys (U := (rqN B xs j).map (·.1)) Sum.inl nd fun x hx => by
          have e := val_nodup nd x hx
          have z := hP x.1
          rw [e] at z
          obtain ⟨ky, vy⟩ := x
          cases ky with
          | inr _ => cases z
          | inl t =>
            obtain ⟨_, _, _, _, _, ne⟩ := z
            refine ⟨t, ?_, rfl⟩
            obtain ⟨r, hr⟩ : ∃ r, r ∈ ofT (rqN B xs j) t := by
              cases e : ofT (rqN B xs j) t with
              | nil => exact absurd e ne
              | cons r _ => exact ⟨r, List.mem_cons_self ..⟩
            obtain ⟨pr, hpr, _⟩ := List.mem_map.mp hr
            obtain ⟨h5, h6⟩ := List.mem_filter.mp hpr
            exact List.mem_map.mpr ⟨pr, h5, of_decide_eq_true h6⟩
        rw [List.length_map] at this
        have := rqN_len B xs j; omega
      refine ⟨_, rfl, _, rfl, g, _, rfl, DPut.k (k := Sum.inl s') hg7 (small1000 (by omega)), ?_⟩
      have t8 : SameD H7 (upd H7 g (.dK (putK kvs (Sum.inl s') (.ref L)))) := SameD.chg hg7
      refine ⟨_, _, _, _, _, _, _, _, _, _, rfl, fun x o z => by rw [upd_ne (ne_of_none z ng)]; exact (sm4.trans s7) x o z, ⟨_, upd_same, nd_put nd, fun ky => ?_⟩⟩
      rw [valV_put]
      by_cases ek : ky = Sum.inl s'
      · rw [if_pos ek, ek]
        refine ⟨L, pe ++ [u], rfl, t8 _ _ (by intro kvs z; cases z) hL7, hpe7.mono fun x r hr => t8 _ _ (by intro kvs z; cases z) hr, ?_⟩
        rw [er, ofT_app, ofT_one, if_pos rfl]
        simp
      · rw [if_neg ek]
        have z := PGr.but (g := g) ((SameD.of s7).trans t8) ky _ (hP ky)
        cases ky with
        | inr _ => exact z
        | inl t =>
          have e2 : ofT (rqN B xs (j + 1)) t = ofT (rqN B xs j) t := by rw [er, ofT_app, ofT_one, if_neg (fun q => ek (by rw [q])), List.append_nil]
          cases e3 : valV kvs (Sum.inl t) with
          | none => rw [e3] at z; exact e2.trans z
          | some w => rw [e3] at z; obtain ⟨q1, p1, h5, h6, h7, h8⟩ := z; exact ⟨q1, p1, h5, h6, by rw [e2]; exact h7, by rw [e2]; exact h8⟩
    · rintro τ H2 ⟨v3, v4, v5, v6, v7, v8, v9, v10, v11, v12, rfl, sm, D⟩
      rw [List.length_map, lt] at D
      exact ⟨_, rfl, k H2 g sm ng D⟩
end
end K27

namespace K27
open PySem L2 SI CM BK OWN MIR StX TX TL
section
variable {w : World} {K : PySem.W.Frag} {mg : Str → Option Value} {base : Heap} (T : Txt w K mg)
/-- tuple(sorted(..)) of the keys of a dict -/
def spAscK : Sp := fun vs H Q _ => ∃ (g : Addr) (kvs : List (Key × V)) (ns : List Int), vs = [.ref g] ∧ H g = some (.dK kvs) ∧ kvs.map (·.1) = ns.map Sum.inl ∧ ns.length ≤ 900 ∧
  ∀ (H' : Hp) (p : Addr) (ms : List Int), Same H H' → H p = none → ms.Perm ns → ms.Pairwise (· ≤ ·) → H' p = some (.tup (ms.map V.int)) → Q (.ref p) H'
theorem ok_ascK : FnOk PP w K mg base CX0 1 T.f_ascending T.d_ascending ["stamps"] spAscK := by
  refine T.F_ascending.ok sc_ascending (fun vs H Q E h => ?_) (fun cdv A outer s H vs Q E hr h => ?_)
  · obtain ⟨a, kvs, ns, rfl, _⟩ := h
    rfl
  · obtain ⟨g, kvs, ns, rfl, hg, ek, hl, k⟩ := h
    refine ⟨_, pss_one (ps_ret (pe_callTy call_tuple_of (by rfl) T.n_tuple (by decide +kernel) (pa_cons (pe_callB cr_sortedI (by rfl) T.n_sorted (by decide +kernel) (pa_cons (pe_lock (pe_lc (own := [("stamp", 1)]) (g := gName 1) (tt := tYes) (by rfl) sc_ascending.nd (pi_keys (pv 0)) (blkOk_by (N := ["stamps", "stamp"]) (sc := defScope s_ascending) (by decide +kernel)) (fun _ _ _ _ _ => pg_name (i := 1) sc_ascending.nd rfl (Or.inl rfl)) (fun _ _ _ _ _ => pts_nil) (fun _ _ _ _ _ => (pe_callTy call_int1 (by rfl) T.n_int (by decide +kernel) (pa_cons (pv 1) pa_nil))))) pa_nil)) pa_nil))), ?_⟩
    have lk : kvs.length = ns.length := by have := congrArg List.length ek; rw [List.length_map, List.length_map] at this; exact this
    refine ⟨g, .dK kvs, hg, trivial, fun od => ⟨_, rfl, g, od, rfl, .inl ⟨kvs, upd_same, fun D nD => lc_it walk_keys (fun i H' => H' D = some (.lst ((ns.take i).map V.int)) ∧ LockS g od (.dK kvs) H H')
      ⟨upd_same, LockS.start.new nD⟩ (fun i H1 _ h => h.2.at_) ?_ ?_⟩⟩⟩
    · rintro i x H1 H1' hi ⟨hD, s1⟩ ⟨rfl, ky, v, ek1, rfl⟩
      obtain ⟨n, hn, rfl⟩ : ∃ n, ns[i]? = some n ∧ ky = Sum.inl n := by
        have e := congrArg (·[i]?) ek
        rw [List.getElem?_map, List.getElem?_map, ek1] at e
        cases hq : ns[i]? with
        | none => rw [hq] at e; cases e
        | some n => rw [hq] at e; exact ⟨n, rfl, Option.some.inj e⟩
      have Dg : D ≠ g := fun z => by rw [z, upd_same] at nD; cases nD
      have nD : H D = none := by rw [upd_ne Dg] at nD; exact nD
      refine ⟨rfl, _, rfl, .inl ⟨_, rfl, _, hD, small1000 (by rw [List.length_map, List.length_take]; omega), ?_, s1.put nD Dg⟩⟩
      rw [upd_same, List.take_add_one, hn, List.map_append]; rfl
    · rintro H1 ⟨hD, s1⟩
      have Dg : D ≠ g := fun z => by rw [z, upd_same] at nD; cases nD
      have nD : H D = none := by rw [upd_ne Dg] at nD; exact nD
      have s2 := s1.unlock hg
      rw [lk, List.take_length] at hD
      have hD2 : (upd H1 g (.dK kvs)) D = some (.lst (ns.map V.int)) := by rw [upd_ne Dg]; exact hD
      refine ⟨s1.at_, D, ns, rfl, SqL.of hD2, fun ms p pm ps np => ⟨p, _, rfl, .inl ⟨SqL.of upd_same, fun l nl => k _ l ms (same_new (same_new s2 np) nl) (s2.free (by cases e : (upd H1 g (.dK kvs)) l with | none => rfl | some o => rw [kp np e] at nl; cases nl)) pm ps upd_same⟩⟩⟩
def runR : (Str → Option Int) → List Rq → Option (Str → Option Int)
  | v, [] => some v
  | v, r :: L => if r.k = "write" then runR (fun n => if n = r.n then some r.v else v n) L else if (v r.n).getD 0 = r.v then runR v L else none
def runL (c : Int → Bool) (rq : Int → List Rq) : (Str → Option Int) → List Int → Option (Str → Option Int)
  | v, [] => some v
  | v, s :: L => if c s = true then (match runR v (rq s) with | some v' => runL c rq v' L | none => none) else runL c rq v L
def PVal (v : Str → Option Int) : Key → Option V → Prop
  | .inr n, o => o = (v n).map V.int
  | .inl _, o => o = none
end
end K27

namespace K27
open PySem L2 SI CM BK OWN MIR StX TX TL
section
variable {w : World} {K : PySem.W.Frag} {mg : Str → Option Value} {base : Heap} (T : Txt w K mg)
theorem keys_inl : ∀ {kvs : List (Key × V)}, (∀ x ∈ kvs, ∃ t : Int, x.1 = Sum.inl t) → ∃ ns : List Int, kvs.map (·.1) = ns.map Sum.inl
  | [], _ => ⟨[], rfl⟩
  | x :: l, h => by
    obtain ⟨t, e⟩ := h x (List.mem_cons_self ..)
    obtain ⟨ns, e2⟩ := keys_inl (kvs := l) fun y hy => h y (List.mem_cons_of_mem _ hy)
    exact ⟨t :: ns, by rw [List.map_cons, List.map_cons, e, e2]⟩
theorem keys_inr : ∀ {kvs : List (Key × V)}, (∀ x ∈ kvs, ∃ t : Str, x.1 = Sum.inr t) → ∃ ns : List Str, kvs.map (·.1) = ns.map Sum.inr ∧ ∀ nm, nm ∉ ns → valV kvs (Sum.inr nm) = none
  | kvs, h => by
    have h0 : ∀ {kvs : List (Key × V)}, (∀ x ∈ kvs, ∃ t : Str, x.1 = Sum.inr t) → ∃ ns : List Str, kvs.map (·.1) = ns.map Sum.inr := by
      intro kvs
      induction kvs with
      | nil => exact fun _ => ⟨[], rfl⟩
      | cons x l ih =>
        intro h
        obtain ⟨t, e⟩ := h x (List.mem_cons_self ..)
        obtain ⟨ns, e2⟩ := ih fun y hy => h y (List.mem_cons_of_mem _ hy)
        exact ⟨t :: ns, by rw [List.map_cons, List.map_cons, e, e2]⟩
    obtain ⟨ns, e⟩ := h0 h
    refine ⟨ns, e, fun nm hn => ?_⟩
    cases ev : valV kvs (Sum.inr nm) with
    | none => rfl
    | some v =>
      have := valV_in ev
      rw [e] at this
      obtain ⟨y, hy, ey⟩ := List.mem_map.mp this
      cases ey
      exact absurd hy hn
theorem mem_ofT {L : List (Int × Rq)} {s : Int} {r : Rq} : r ∈ ofT L s ↔ (s, r) ∈ L := by
  unfold ofT
  rw [List.mem_map]
  constructor
  · rintro ⟨⟨a, b⟩, h, rfl⟩
    obtain ⟨h1, h2⟩ := List.mem_filter.mp h
    have h3 : a = s := of_decide_eq_true h2
    rw [← h3]; exact h1
  · intro h
    exact ⟨(s, r), List.mem_filter.mpr ⟨h, decide_eq_true rfl⟩, rfl⟩
theorem ofT_ne {L : List (Int × Rq)} {s : Int} : ofT L s ≠ [] ↔ s ∈ L.map (·.1) := by
  constructor
  · intro h
    cases e : ofT L s with
    | nil => exact absurd e h
    | cons r l => exact List.mem_map.mpr ⟨(s, r), mem_ofT.mp (by rw [e]; exact List.mem_cons_self ..), rfl⟩
  · intro h e
    obtain ⟨⟨a, r⟩, h1, rfl⟩ := List.mem_map.mp h
    have := mem_ofT.mpr h1
    rw [e] at this
    cases this
/-- the keys of granted -/
theorem pgr_keys {H : Hp} {g : Addr} {L : List (Int × Rq)} {kvs : List (Key × V)} (nd : (kvs.map (·.1)).Nodup) (hP : ∀ k, PGr H L k (valV kvs k)) :
    ∃ ns : List Int, kvs.map (·.1) = ns.map Sum.inl ∧ ns.Nodup ∧ ∀ x, x ∈ ns ↔ x ∈ L.map (·.1) := by
  obtain ⟨ns, e⟩ := keys_inl (kvs := kvs) fun x hx => by
    have z := hP x.1
    rw [val_nodup nd x hx] at z
    obtain ⟨k, v⟩ := x
    cases k with
    | inl t => exact ⟨t, rfl⟩
    | inr _ => cases z
  refine ⟨ns, e, ?_, fun x => ?_⟩
  · rw [e] at nd
    exact (List.pairwise_map.mp nd).imp fun h e => h (by rw [e])
  · rw [← ofT_ne]
    have hx := hP (.inl x)
    cases ev : valV kvs (Sum.inl x) with
    | none =>
      rw [ev] at hx
      have hx : ofT L x = [] := hx
      refine ⟨fun h => ?_, fun h => absurd hx h⟩
      have h2 : (Sum.inl x : Key) ∈ kvs.map (·.1) := by rw [e]; exact List.mem_map.mpr ⟨x, h, rfl⟩
      obtain ⟨y, hy, ey⟩ := List.mem_map.mp h2
      have := val_nodup nd y hy
      rw [ey, ev] at this
      cases this
    | some v =>
      rw [ev] at hx
      obtain ⟨q, ps, _, _, _, h4⟩ := hx
      refine ⟨fun _ => h4, fun _ => ?_⟩
      have h2 : (Sum.inl x : Key) ∈ kvs.map (·.1) := valV_in ev
      rw [e] at h2
      obtain ⟨y, hy, ey⟩ := List.mem_map.mp h2
      cases ey
      exact hy
def comC (σ : MIR.S) (s : Int) : Bool := decide (σ.ov s = some true)
def v00 : Str → Option Int := fun _ => none
def SerP (B : Bkm) (xs : List Stp) (n : Nat) : Prop :=
  ∃ v, runL (comC (stN B xs n)) (ofT (rqN B xs n)) v00 (asc ((rqN B xs n).map (·.1))) = some v ∧ ∀ nm, (v nm).getD 0 = (lastV ((stN B xs n).it nm)).2
/-- the names of a run of requests -/
def InN (N : List Str) (v : Str → Option Int) : Prop := ∀ nm, v nm ≠ none → nm ∈ N
theorem runR_drop {v : Str → Option Int} {L : List Rq} {i : Nat} {r : Rq} (h : L[i]? = some r) : runR v (L.drop i) = if r.k = "write" then runR (fun n => if n = r.n then some r.v else v n) (L.drop (i + 1)) else if (v r.n).getD 0 = r.v then runR v (L.drop (i + 1)) else none := by
  have hi := (List.getElem?_eq_some_iff.mp h)
  rw [List.drop_eq_getElem_cons hi.1, hi.2]
  rfl
theorem runL_drop {c : Int → Bool} {rq : Int → List Rq} {v : Str → Option Int} {L : List Int} {i : Nat} {s : Int} (h : L[i]? = some s) : runL c rq v (L.drop i) = if c s = true then (match runR v (rq s) with | some v' => runL c rq v' (L.drop (i + 1)) | none => none) else runL c rq v (L.drop (i + 1)) := by
  have hi := (List.getElem?_eq_some_iff.mp h)
  rw [List.drop_eq_getElem_cons hi.1, hi.2]
  rfl
def SerU (B : Bkm) (xs : List Stp) (n : Nat) (o : Option (Str → Option Int)) : Prop := ∃ v, o = some v ∧ ∀ nm, (v nm).getD 0 = (lastV ((stN B xs n).it nm)).2
theorem pval_len {N : List Str} {v : Str → Option Int} {kvs : List (Key × V)} (nd : (kvs.map (·.1)).Nodup) (hP : ∀ k, PVal v k (valV kvs k)) (hN : InN N v) : kvs.length ≤ N.length := by
  refine len_keys Sum.inr nd fun x hx => ?_
  have e := val_nodup nd x hx
  have z := hP x.1
  rw [e] at z
  obtain ⟨k, y⟩ := x
  cases k with
  | inl t => cases z
  | inr n =>
    have z : some y = (v n).map V.int := z
    refine ⟨n, hN n fun q => ?_, rfl⟩
    rw [q] at z; cases z
theorem pval_put {v : Str → Option Int} {kvs : List (Key × V)} {n : Str} {z : Int} (hP : ∀ k, PVal v k (valV kvs k)) : ∀ k, PVal (fun m => if m = n then some z else v m) k (valV (putK kvs (Sum.inr n) (.int z)) k) := fun k => by
  rw [valV_put]
  cases k with
  | inl t => rw [if_neg (by intro q; cases q)]; exact hP (.inl t)
  | inr m =>
    show (if (Sum.inr m : Key) = Sum.inr n then some (V.int z) else valV kvs (Sum.inr m)) = (if m = n then some z else v m).map V.int
    by_cases e : m = n
    · rw [if_pos e, if_pos (by rw [e])]; rfl
    · rw [if_neg e, if_neg (fun q => e (Sum.inr.inj q))]; exact hP (.inr m)
def spSerial (K : PySem.W.Frag) (CS CI : Addr) : Sp := fun vs H Q _ => ∃ (a p q : Addr) (ws : List V) (xs : List Stp) (B : Bkm) (ts : List Addr) (n : Nat), vs = [.ref a, .ref p, .ref q] ∧ SqL K H a ws ∧ RunAt H ws xs ∧ (∀ x ∈ xs, KdOk x) ∧ (∀ x ∈ ENT, B.f x ∈ chs x) ∧ xs.length ≤ 300 ∧
  H p = some (.lst (ts.map V.ref)) ∧ F2 (fun q i => OutAt H q (outN B xs i)) ts (List.range n) ∧ n ≤ xs.length ∧ StAt CS CI (usOf xs) (nsOf xs) H q (stN B xs n) ∧
  ∀ (b : Bool) (H' : Hp), Same H H' → (b = true ↔ SerP B xs n) → Q (.bl b) H'
theorem ok_is_serial : FnOk PP w K mg base CX0 4 T.f_is_serial T.d_is_serial ["run", "outcomes", "state"] (spSerial K T.c_State T.c_Item) := by
  refine T.F_is_serial.ok sc_is_serial (fun vs H Q E h => ?_) (fun cdv A outer s H vs Q E hr h => ?_)
  · obtain ⟨a, p, q, ws, xs, B, ts, n, rfl, _⟩ := h
    rfl
  · obtain ⟨a, p, q, ws, xs, B, ts, n, rfl, hS, hR, hkd, hf, hl, hp, hts, hn, hst, k⟩ := h
    refine ⟨_, pss_cons (ps_set (i := 3) sc_is_serial.nd rfl (.inl rfl) (pe_call (ok_requests_granted T) (hr.mono (by decide)) (by rfl) T.g_requests_granted T.F_requests_granted.kp (b_requests_granted T) .nil pass0 (pa_cons (pv 0) (pa_cons (pv 1) pa_nil))))
 (pss_cons (ps_set (i := 4) sc_is_serial.nd rfl (.inr rfl) pe_dnewK)
 (pss_cons (ps_for PassesOwn.never rfl (pi_tup (pe_call (ok_ascK T) (hr.mono (by decide)) (by rfl) T.g_ascending T.F_ascending.kp (b_ascending T) .nil pass0 (pa_cons (pv 3) pa_nil))) (pg_name (i := 5) sc_is_serial.nd rfl (.inl rfl))
 (pss_cons (ps_if (pt_cmpR op_ne (pe_dget1 (hu_of hr) (pe_fld (pv 2) rfl) (pv 5) (by constructor <;> rfl)) pe_str (nomark _))
 (pss_one ps_continue)
 pss_nil)
 (pss_one (ps_for PassesOwn.never rfl (pi_list (pe_dget (hu_of hr) (pv 3) (pv 5) (fun _ _ => rfl))) (pg_tup rfl (pgs_cons (pg_name (i := 6) sc_is_serial.nd rfl (.inl rfl)) (pgs_cons (pg_name (i := 7) sc_is_serial.nd rfl (.inl rfl)) (pgs_cons (pg_name (i := 8) sc_is_serial.nd rfl (.inl rfl)) pgs_nil))))
 (pss_one (ps_if (pt_cmpR op_eq (pv 6) pe_str (nomark _))
 (pss_one (ps_dput (hu_of hr) (pv 4) (pv 7) (pv 8) rfl))
 (pss_one (ps_if (pt_cmpR op_ne (pe_dget2 (hu_of hr) (pv 4) (pv 7) pe_int (by constructor <;> rfl)) (pv 8) (nomark _))
 (pss_one (ps_ret pe_bl))
 pss_nil))))))))
 (pss_one (ps_ret (pe_callB (cr_all rfl) (by rfl) T.n_all (by decide +kernel) (pa_cons (pe_lc (own := [("name", 7)]) (g := gName 7) (tt := tYes) (te := tOp rEq (tDGet2 (tVar 4) (tVar 7) (tC (.int 0))) (tOp (rIxT K) (tOp (rIxT K) (tFld K (tCall (spItemOf T.c_State T.c_Item) [] E0 (tCons (tVar 2) (tCons (tVar 7) tNil))) "kept") (tUn (rU fun i => .int (-i)) (tC (.int 1)))) (tC (.int 1)))) (by rfl) sc_is_serial.nd (pi_list (pe_lst (DST.pa_starK rfl (pv 4) (DST.pa_starK rfl (pe_fld (pv 2) rfl) pa_nil)))) (blkOk_by (N := ["run", "outcomes", "state", "granted", "values", "stamp", "kind", "name", "value"]) (sc := defScope s_is_serial) (by decide +kernel)) (fun _ _ _ _ _ => pg_name (i := 7) sc_is_serial.nd rfl (Or.inl rfl)) (fun _ _ _ _ _ => pts_nil) (fun _ _ _ _ _ => (pe_cmpR (r := rEq) op_eq (pe_dget2 (hu_of hr) (pv 4) (pv 7) pe_int (by constructor <;> rfl)) (pe_ix (r := rIxT K) ix_tup (pe_ix (r := rIxT K) ix_tup (pe_fld (pe_call (ok_item_of T) (hr.mono (by decide)) (by rfl) T.g_item_of T.F_item_of.kp (b_item_of T) .nil pass0 (pa_cons (pv 2) (pa_cons (pv 7) pa_nil))) rfl) (pe_un un_neg pe_int) (fun _ _ => rfl)) pe_int (fun _ _ => rfl)) (nomark _)))) pa_nil)))))), ?_⟩
    refine ⟨_, rfl, _, rfl, a, p, ws, xs, B, ts, n, rfl, hS, hR, hkd, hf, hl, hp, hts, hn, fun H1 g s1 ng D1 => ?_⟩
    obtain ⟨gk, hg, gnd, hG⟩ := D1.ex
    have hst1 := hst.same s1
    have k : ∀ (b : Bool) (H' : Hp), Same H H' → (b = true ↔ SerU B xs n (runL (comC (stN B xs n)) (ofT (rqN B xs n)) v00 (asc ((rqN B xs n).map (·.1))))) → Q (.bl b) H' := k
    have lrq := rqN_len B xs n
    generalize rqN B xs n = L at hG k lrq
    generalize hσ : stN B xs n = σ at hst1 k
    obtain ⟨dx, dz, dv, db, hq, n1, n2, n3, E1, E2, E3⟩ := hst1.ex
    obtain ⟨sk, hsk, snd, hSk⟩ := E1.ex
    obtain ⟨vk, hvk, vnd, hVk⟩ := E2.ex
    obtain ⟨ns, ens, nns, mns⟩ := pgr_keys (g := g) gnd hG
    have lns : ns.length ≤ 300 := by
      have h := congrArg List.length ens
      have h2 := nd_le nns fun x hx => (mns x).mp hx
      rw [List.length_map] at h2
      omega
    refine fun D nD => ?_
    have s2 : Same H1 (upd H1 D (.dK [])) := same_new (Same.refl H1) nD
    have hD2 : (upd H1 D (.dK [])) D = some (.dK []) := upd_same
    generalize upd H1 D (.dK []) = H2 at s2 hD2
    refine ⟨_, rfl, g, gk, ns, rfl, s2 _ _ hg, ens, by omega, fun H3 p1 ms s3 np1 pm so hp1 => ⟨p1, rfl, ⟨_, SqT.of hp1⟩, ?_⟩⟩
    obtain ⟨ms1, ms2⟩ := perm_asc pm so nns
    have ea : asc (L.map (·.1)) = ms := asc_eq ⟨ms1, fun x => (ms2 x).trans (mns x)⟩
    rw [ea] at k
    have s13 := s2.trans s3
    have hD3 := s3 _ _ hD2
    refine for_tup (K := K) (a := p1) (xs := ms.map V.int) (fun i τ H' => ∃ (v5 v6 v7 v8 : Option V) (v : Str → Option Int), τ = [some (.ref a), some (.ref p), some (.ref q), some (.ref g), some (.ref D), v5, v6, v7, v8] ∧ Same H1 H' ∧ H' p1 = some (.tup (ms.map V.int)) ∧ DR H' D (PVal v) ∧ InN (L.map (·.2.n)) v ∧ runL (comC σ) (ofT L) v00 ms = runL (comC σ) (ofT L) v (ms.drop i))
      ⟨none, none, none, none, v00, rfl, s13, hp1, dr_nil hD3 fun k => by cases k <;> rfl, fun nm h => absurd rfl h, rfl⟩ (fun i τ H' _ ⟨_, _, _, _, _, _, _, h, _⟩ => SqT.of h) ?_ ?_
    · rintro i x τ H4 hx ⟨v5, v6, v7, v8, v, rfl, s4, hp4, D4, iN, er⟩
      rw [List.getElem?_map] at hx
      cases hm : ms[i]? with
      | none => rw [hm] at hx; cases hx
      | some t =>
      rw [hm] at hx
      cases hx
      have ed := runL_drop (c := comC σ) (rq := ofT L) (v := v) hm
      rw [ed] at er
      have hq4 := s4 _ _ hq
      have hv4 := s4 _ _ hvk
      refine ⟨_, rfl, q, T.c_State, dx, _, _, rfl, hq4, T.cl_State, T.na_State_over, rfl, dv, rfl, .inl ⟨vk, .inl hv4⟩, _, rfl, _, DGet.k (k := Sum.inl t) hv4, ?_⟩
      have goOn : comC σ t = false → ∃ (v5 v6 v7 v8 : Option V) (v : Str → Option Int), _ = [some (.ref a), some (.ref p), some (.ref q), some (.ref g), some (.ref D), v5, v6, v7, v8] ∧ Same H1 H4 ∧ H4 p1 = some (.tup (ms.map V.int)) ∧ DR H4 D (PVal v) ∧ InN (L.map (·.2.n)) v ∧ runL (comC σ) (ofT L) v00 ms = runL (comC σ) (ofT L) v (ms.drop (i + 1)) := fun c => ⟨some (.int t), v6, v7, v8, v, rfl, s4, hp4, D4, iN, by rw [er, if_neg (by rw [c]; decide)]⟩
      have hv := hVk (.inl t)
      cases ev : valV vk (Sum.inl t) with
      | none =>
        rw [ev] at hv
        have hv : σ.ov t = none := hv
        refine ⟨rfl, _, rfl, ?_⟩
        exact iteT (goOn (by unfold comC; rw [hv]; rfl))
      | some w =>
        rw [ev] at hv
        obtain ⟨b, rfl, _, hv⟩ := hv
        cases b with
        | false => 
          refine ⟨rfl, _, rfl, ?_⟩
          exact iteT (goOn (by unfold comC; rw [hv]; rfl))
        | true =>
          refine ⟨rfl, _, rfl, ?_⟩
          refine iteF ?_
          have c1 : comC σ t = true := by unfold comC; rw [hv]; rfl
          rw [if_pos c1] at er
          have tL : t ∈ L.map (·.1) := (mns t).mp ((ms2 t).mp (List.mem_of_getElem? hm))
          have hgt := hG (.inl t)
          cases eg : valV gk (Sum.inl t) with
          | none => rw [eg] at hgt; exact absurd hgt (ofT_ne.mpr tL)
          | some w =>
          rw [eg] at hgt
          obtain ⟨r, rs, rfl, hr1, hrs, _⟩ := hgt
          have hr4 := s4 _ _ hr1
          have dg := DGet.k (k := Sum.inl t) (s4 _ _ hg)
          rw [eg] at dg
          refine ⟨_, rfl, _, rfl, g, _, rfl, dg, r, rfl, ⟨_, SqL.of hr4⟩, ?_⟩
          refine for_list (K := K) (a := r) (xs := rs.map V.ref) (fun j τ H' => ∃ (v6 v7 v8 : Option V) (v' : Str → Option Int), τ = [some (.ref a), some (.ref p), some (.ref q), some (.ref g), some (.ref D), some (.int t), v6, v7, v8] ∧ Same H1 H' ∧ H' p1 = some (.tup (ms.map V.int)) ∧ DR H' D (PVal v') ∧ InN (L.map (·.2.n)) v' ∧ runR v (ofT L t) = runR v' ((ofT L t).drop j))
            ⟨v6, v7, v8, v, rfl, s4, hp4, D4, iN, rfl⟩ (fun j τ H' _ ⟨_, _, _, _, _, s5, _⟩ => SqL.of (s5 _ _ hr1)) ?_ ?_
          · rintro j x τ H5 hx ⟨v6, v7, v8, v', rfl, s5, hp5, D5, iN5, er5⟩
            rw [List.getElem?_map] at hx
            cases hy : rs[j]? with
            | none => rw [hy] at hx; cases hx
            | some y =>
            rw [hy] at hx
            cases hx
            obtain ⟨rq, erq, hrq⟩ := hrs.at hy
            have hrq5 : H5 y = some (.tup [.str rq.k, .str rq.n, .int rq.v]) := s5 _ _ hrq
            have hmem : rq.n ∈ L.map (·.2.n) := List.mem_map.mpr ⟨(t, rq), mem_ofT.mp (List.mem_of_getElem? erq), rfl⟩
            rw [runR_drop erq] at er5
            refine ⟨y, _, rfl, SqT.of hrq5, rfl, _, _, rfl, _, _, rfl, _, _, rfl, rfl, ?_⟩
            obtain ⟨kv, hD5, nd5, hP5⟩ := D5.ex
            have lkv := pval_len nd5 hP5 iN5
            rw [List.length_map] at lkv
            refine ⟨_, rfl, rfl, _, rfl, ?_⟩
            rw [ds]
            by_cases ck : rq.k = "write"
            · rw [if_pos ck] at er5
              rw [decide_eq_true ck]
              refine iteT ⟨_, rfl, _, rfl, _, rfl, D, _, rfl, DPut.k (k := Sum.inr rq.n) hD5 (small1000 (by omega)), ?_⟩
              refine ⟨_, _, _, _, rfl, ?_, ?_, ⟨_, upd_same, nd_put nd5, pval_put hP5⟩, ?_, er5⟩
              · exact fun x o z => by rw [upd_ne (ne_of_none z nD)]; exact s5 x o z
              · rw [upd_ne (fun e => by rw [e, hD5] at hp5; cases hp5)]; exact hp5
              · intro nm h
                by_cases e : nm = rq.n
                · rw [e]; exact hmem
                · have h : (if nm = rq.n then some rq.v else v' nm) ≠ none := h
                  rw [if_neg e] at h; exact iN5 nm h
            · rw [if_neg ck] at er5
              rw [decide_eq_false ck]
              refine iteF ?_
              have hv5 := hP5 (.inr rq.n)
              have hv5 : valV kv (Sum.inr rq.n) = (v' rq.n).map V.int := hv5
              have dg5 := DGet.k (k := Sum.inr rq.n) hD5
              rw [hv5] at dg5
              refine ⟨_, rfl, D, rfl, .inl ⟨kv, .inl hD5⟩, _, rfl, _, dg5, ?_⟩
              have egd : ((v' rq.n).map V.int).getD (.int 0) = .int ((v' rq.n).getD 0) := by cases v' rq.n <;> rfl
              rw [egd]
              refine ⟨_, rfl, rfl, _, rfl, ?_⟩
              by_cases cv : (v' rq.n).getD 0 = rq.v
              · rw [if_pos cv] at er5
                rw [show (!decide (V.int ((v' rq.n).getD 0) = V.int rq.v)) = false by rw [cv]; simp]
                exact iteF ⟨_, _, _, _, rfl, s5, hp5, D5, iN5, er5⟩
              · rw [if_neg cv] at er5
                rw [show (!decide (V.int ((v' rq.n).getD 0) = V.int rq.v)) = true by rw [decide_eq_false (fun z => cv (V.int.inj z))]; rfl]
                refine iteT ?_
                rw [er5] at er
                refine k false H5 (s1.trans s5) ⟨fun z => (by cases z), fun ⟨u, hu, _⟩ => by rw [er] at hu; cases hu⟩
          · rintro τ H5 ⟨v6, v7, v8, v', rfl, s5, hp5, D5, iN5, er5⟩
            rw [List.length_map, hrs.len, List.drop_length] at er5
            have er5 : runR v (ofT L t) = some v' := er5
            rw [er5] at er
            exact ⟨_, _, _, _, _, rfl, s5, hp5, D5, iN5, er⟩
    · rintro τ H4 ⟨v5, v6, v7, v8, v, rfl, s4, hp4, D4, iN, er⟩
      rw [List.length_map, List.drop_length] at er
      have er : runL (comC σ) (ofT L) v00 ms = some v := er
      rw [er] at k
      obtain ⟨kv, hD5, nd5, hP5⟩ := D4.ex
      have lkv := pval_len nd5 hP5 iN
      rw [List.length_map] at lkv
      have lsk := len_store snd hSk
      rw [show (nsOf xs).length = xs.length from List.length_map ..] at lsk
      have hq4 := s4 _ _ hq
      have hs4 := s4 _ _ hsk
      refine ⟨_, rfl, D, kv, rfl, .inl hD5, _, rfl, q, T.c_State, dx, _, _, rfl, hq4, T.cl_State, T.na_State_store, rfl, dz, sk, rfl, .inl hs4, ?_⟩
      obtain ⟨n1, e1, m1⟩ := keys_inr (kvs := kv) fun x hx => by
        have z := hP5 x.1
        rw [val_nodup nd5 x hx] at z
        obtain ⟨k, v⟩ := x
        cases k with
        | inr t => exact ⟨t, rfl⟩
        | inl _ => cases z
      obtain ⟨n2, e2, m2⟩ := keys_inr (kvs := sk) fun x hx => by
        have z := hSk x.1
        rw [val_nodup snd x hx] at z
        obtain ⟨k, v⟩ := x
        cases k with
        | inr t => exact ⟨t, rfl⟩
        | inl _ => cases z
      have l1 : n1.length = kv.length := by have := congrArg List.length e1; rw [List.length_map, List.length_map] at this; exact this.symm
      have l2 : n2.length = sk.length := by have := congrArg List.length e2; rw [List.length_map, List.length_map] at this; exact this.symm
      have eL : (kv.map fun kv => kV kv.1) ++ ((sk.map fun kv => kV kv.1) ++ []) = (n1 ++ n2).map V.str := by
        have h1 : (kv.map fun kv => kV kv.1) = n1.map V.str := by
          have := congrArg (List.map kV) e1
          rw [List.map_map, List.map_map] at this; exact this
        have h2 : (sk.map fun kv => kV kv.1) = n2.map V.str := by
          have := congrArg (List.map kV) e2
          rw [List.map_map, List.map_map] at this; exact this
        rw [h1, h2, List.append_nil, List.map_append]
      have lN : (n1 ++ n2).length ≤ 600 := by rw [List.length_append]; omega
      have key : ∀ nm, nm ∉ n1 ++ n2 → (v nm).getD 0 = (lastV (σ.it nm)).2 := fun nm h => by
        have h1 : nm ∉ n1 := fun z => h (List.mem_append_left _ z)
        have h2 : nm ∉ n2 := fun z => h (List.mem_append_right _ z)
        have z1 : (v nm).map V.int = none := by
          have := hP5 (.inr nm)
          rw [m1 nm h1] at this
          exact this.symm
        have z2 : σ.it nm = it0 := by
          have := hSk (.inr nm)
          rw [m2 nm h2] at this
          exact this
        rw [z2]
        cases ev : v nm with
        | none => rfl
        | some _ => rw [ev] at z1; cases z1
      refine ⟨by show ((kv.map fun (kv : Key × V) => kV kv.1) ++ ((sk.map fun (kv : Key × V) => kV kv.1) ++ [])).length ≤ sizeLine; rw [eL, List.length_map]; exact Nat.le_of_lt (small1000 (by omega)), fun N nN => ?_⟩
      rw [eL]
      generalize n1 ++ n2 = NL at lN key
      have hb : ((NL.map fun nm => decide ((v nm).getD 0 = (lastV (σ.it nm)).2)).all id = true) ↔ SerU B xs n (some v) := by
        rw [List.all_map, List.all_eq_true]
        constructor
        · intro h
          refine ⟨v, rfl, fun nm => ?_⟩
          rw [hσ]
          by_cases c : nm ∈ NL
          · exact of_decide_eq_true (h nm c)
          · exact key nm c
        · rintro ⟨u, hu, h⟩ nm _
          cases hu
          have := h nm
          rw [hσ] at this
          exact decide_eq_true this
      have s5 : Same H4 (upd H4 N (.lst (NL.map V.str))) := same_new (Same.refl H4) nN
      have hN5 : (upd H4 N (.lst (NL.map V.str))) N = some (.lst (NL.map V.str)) := upd_same
      generalize upd H4 N (.lst (NL.map V.str)) = H5 at s5 hN5
      have s15 := s4.trans s5
      have hst5 : StAt T.c_State T.c_Item (usOf xs) (nsOf xs) H5 q (stN B xs n) := hst.same (s1.trans s15)
      refine ⟨N, rfl, ⟨_, SqL.of hN5⟩, fun C nC => lc_list (xs := NL.map V.str) (fun i H' => H' C = some (.lst (((NL.take i).map fun nm => decide ((v nm).getD 0 = (lastV (σ.it nm)).2)).map V.bl)) ∧ Same H5 H')
        ⟨upd_same, same_new (Same.refl H5) nC⟩ (fun i H' _ h => SqL.of (h.2 _ _ hN5)) ?_ ?_⟩
      · rintro i x H6 hx ⟨hC, s6⟩
        rw [List.getElem?_map] at hx
        cases hm : NL[i]? with
        | none => rw [hm] at hx; cases hx
        | some nm =>
        rw [hm] at hx
        cases hx
        have hD6 := s6 _ _ (s5 _ _ hD5)
        have dg5 := DGet.k (k := Sum.inr nm) hD6
        rw [show valV kv (Sum.inr nm) = (v nm).map V.int from hP5 (.inr nm)] at dg5
        refine ⟨rfl, _, rfl, D, rfl, .inl ⟨kv, .inl hD6⟩, _, rfl, _, dg5, ?_⟩
        have egd : ((v nm).map V.int).getD (.int 0) = .int ((v nm).getD 0) := by cases v nm <;> rfl
        rw [egd]
        refine ⟨_, rfl, _, rfl, q, nm, _, _, _, rfl, hst5.same s6, fun H7 y s7 hi wf => ?_⟩
        obtain ⟨dx2, ka, hy, ps, hka, hps⟩ := hi
        obtain ⟨l, z, el, hz⟩ := hps.last (d := (0, 0)) wf.ne
        rw [hσ] at hy hz
        have hz : H7 z = some (.tup [.int (lastV (σ.it nm)).1, .int (lastV (σ.it nm)).2]) := hz
        have hlast : atI (ps.map V.ref) (-1) = some (.ref z) := by rw [el, List.map_append]; exact atI_last _ _
        refine ⟨y, T.c_Item, dx2, _, _, rfl, hy, T.cl_Item, T.na_Item_kept, rfl, _, rfl, ka, _, _, .ref z, rfl, rfl, SqT.of hka, hlast, z, _, _, .int (lastV (σ.it nm)).2, rfl, rfl, SqT.of hz, rfl, ?_⟩
        have ee : decide (V.int ((v nm).getD 0) = V.int (lastV (σ.it nm)).2) = decide ((v nm).getD 0 = (lastV (σ.it nm)).2) := by
          by_cases c : (v nm).getD 0 = (lastV (σ.it nm)).2
          · rw [c]; simp
          · rw [decide_eq_false c, decide_eq_false (fun z => c (V.int.inj z))]
        refine ⟨rfl, ?_⟩
        rw [ee]
        have hi2 := (List.getElem?_eq_some_iff.mp hm).1
        refine ⟨_, s7 _ _ hC, small1000 (by rw [List.length_map, List.length_map, List.length_take]; omega), ?_, fun x o z => by rw [upd_ne (ne_of_none z nC)]; exact (s6.trans s7) x o z⟩
        rw [upd_same, List.take_add_one, hm, List.map_append, List.map_append]; rfl
      · rintro H6 ⟨hC, s6⟩
        rw [List.length_map, List.take_length] at hC
        refine ⟨C, _, rfl, SqL.of hC, ?_⟩
        exact k _ H6 (s1.trans (s15.trans s6)) hb
end
end K27

namespace K27
open PySem L2 SI CM BK OWN MIR StX TX TL
section
variable {w : World} {K : PySem.W.Frag} {mg : Str → Option Value} {base : Heap} (T : Txt w K mg)
def BadAt (B : Bkm) (xs : List Stp) (i : Nat) : Prop := (outN B xs i).word = "commit" ∧ ¬ SerP B xs (i + 1)
def FaultIs (B : Bkm) (xs : List Stp) : Option Int → Prop
  | none => ∀ i, i < xs.length → ¬ BadAt B xs i
  | some m => ∃ i, m = 1 + (i : Nat) ∧ i < xs.length ∧ BadAt B xs i ∧ ∀ j, j < i → ¬ BadAt B xs j
theorem FaultIs.uniq {B : Bkm} {xs : List Stp} : ∀ {a b : Option Int}, FaultIs B xs a → FaultIs B xs b → a = b
  | none, none, _, _ => rfl
  | none, some m, h, ⟨i, _, hi, hb, _⟩ => absurd hb (h i hi)
  | some m, none, ⟨i, _, hi, hb, _⟩, h => absurd hb (h i hi)
  | some m, some n, ⟨i, e, hi, hb, hl⟩, ⟨j, e2, hj, hb2, hl2⟩ => by
    have : i = j := by
      rcases Nat.lt_trichotomy i j with h | h | h
      · exact absurd hb (hl2 i h)
      · exact h
      · exact absurd hb2 (hl j h)
    subst this
    rw [e, e2]
def oI : Option Int → V
  | none => .non
  | some m => .int m
def spFault (K : PySem.W.Frag) (CB CE : Addr) : Sp := fun vs H Q E => ∃ (b dxb d : Addr) (f : Str → Str) (e : Str) (k : Nat) (a : Addr) (ws : List V) (bs : List Bool) (xs : List Stp), vs = [.ref b, .ref a] ∧
  Bk CB H b dxb d f e (k : Int) ∧ (∀ x ∈ ENT, f x ∈ chs x) ∧ 1 ≤ k ∧ k ≤ 20 ∧ RunQ K H a ws bs xs ∧
  ((∀ b ∈ bs, b = true) → ∀ (H' : Hp) (o : Option Int), Same H H' → FaultIs ⟨f, e, k⟩ xs o → Q (oI o) H') ∧ BadRun CE bs H E
theorem ok_fault : FnOk PP w K mg base (L2.CX PP w) 12 T.f_fault T.d_fault ["book", "run"] (spFault K T.c_Book T.c_BadStep) := by
  refine T.F_fault.okX sc_fault (fun vs H Q E h => ?_) (fun cdv A outer s H vs Q E hr h => ?_)
  · obtain ⟨b, dxb, d, f, e, k, a, ws, bs, xs, rfl, _⟩ := h
    rfl
  · obtain ⟨b, dxb, d, f, e, k, a, ws, bs, xs, rfl, B, hf, k1, k20, R, kT, kF⟩ := h
    refine ⟨_, pss_cons (ps_set (i := 2) sc_fault.nd rfl (.inl rfl) (pe_call (ok_traced T) (hr.mono (by decide)) (by rfl) T.g_traced T.F_traced.kp (b_traced T) .nil (passes_call (takes_of rfl rfl rfl rfl) fun _ _ _ _ h => h) (pa_cons (pv 0) (pa_cons (pv 1) pa_nil))))
 (pss_cons (ps_setLc (i := 5) (own := [("_", 3), ("outcome", 4)]) (g := (gTup K 3 (gCons (gName 3) (gCons (gName 4) (gCons (gName 3) gNil))))) (tt := tYes) (by rfl) sc_fault.nd rfl rfl (sw_true rfl rfl rfl (by decide +kernel)) (pi_list (pv 2)) (blkOk_by (N := ["book", "run", "trace", "_", "outcome", "outcomes", "number", "after"]) (sc := defScope s_fault) (by decide +kernel)) (fun _ _ _ _ _ => pg_tup rfl (pgs_cons (pg_name (i := 3) sc_fault.nd rfl (.inl rfl)) (pgs_cons (pg_name (i := 4) sc_fault.nd rfl (.inl rfl)) (pgs_cons (pg_name (i := 3) sc_fault.nd rfl (.inl rfl)) pgs_nil)))) (fun _ _ _ _ _ => pts_nil) (fun _ _ _ _ _ => (pv 4)))
 (pss_cons (ps_for (passes_of rfl) rfl (EN.pi_enumK (by rfl) T.n_enumerate (pa_cons (pv 2) pa_nil) (pk_cons pe_int pk_nil)) (pg_tup rfl (pgs_cons (pg_name (i := 6) sc_fault.nd rfl (.inl rfl)) (pgs_cons (pg_tup rfl (pgs_cons (pg_name (i := 3) sc_fault.nd rfl (.inl rfl)) (pgs_cons (pg_name (i := 4) sc_fault.nd rfl (.inl rfl)) (pgs_cons (pg_name (i := 7) sc_fault.nd rfl (.inl rfl)) pgs_nil)))) pgs_nil)))
 (pss_one (ps_if (PW.pt (pw_and (pt_cmpR op_eq (pe_ix ix_tup (pv 4) pe_int (fun _ _ => rfl)) pe_str (nomark _)) (pw_and1 (pt_not (pt_val (pe_call (ok_is_serial T) (hr.mono (by decide)) (by rfl) T.g_is_serial T.F_is_serial.kp (b_is_serial T) .nil pass0 (pa_cons (pv 1) (pa_cons (pe_slice sl_list (pv 5) po_none (po_some (pv 6))) (pa_cons (pv 7) pa_nil)))))))))
 (pss_one (ps_ret (pv 6)))
 pss_nil)))
 (pss_one (ps_ret pe_non)))), ?_⟩
    refine ⟨_, rfl, _, rfl, b, dxb, d, f, e, k, a, ws, bs, xs, rfl, B, hf, k1, k20, R, fun hall H1 p s1 np ⟨ts, hp, hts⟩ => ?_, kF⟩
    obtain ⟨hrun, hkd⟩ := R.run hall
    have hl : xs.length ≤ 300 := by rw [← hrun.len]; exact R.le
    have lt : ts.length = xs.length := by rw [hts.len, List.length_range]
    generalize hB : (⟨f, e, k⟩ : Bkm) = BB at *
    refine ⟨_, rfl, p, rfl, ⟨_, SqL.of hp⟩, fun D nD => lc_list (xs := ts.map V.ref) (fun i H' => ∃ us : List Addr, H' D = some (.lst (us.map V.ref)) ∧ Same H1 H' ∧ F2 (fun q i => OutAt H' q (outN BB xs i)) us (List.range i))
      ⟨[], upd_same, same_new (Same.refl H1) nD, .nil⟩ (fun i H' _ ⟨_, _, s, _⟩ => SqL.of (s _ _ hp)) ?_ ?_⟩
    · rintro i x H2 hx ⟨us, hD, s2, hus⟩
      rw [List.getElem?_map] at hx
      cases hq : ts[i]? with
      | none => rw [hq] at hx; cases hx
      | some y =>
      rw [hq] at hx
      cases hx
      obtain ⟨j, ej, hy⟩ := hts.at hq
      obtain rfl : j = i := by
        have hi : i < (List.range xs.length).length := (List.getElem?_eq_some_iff.mp ej).1
        rw [List.getElem?_eq_getElem hi, List.getElem_range] at ej
        exact (Option.some.inj ej).symm
      obtain ⟨a1, b1, c1, hy, _, ho, _, hsr⟩ := hy
      have lu : us.length = j := by rw [hus.len, List.length_range]
      have hj : j < ts.length := (List.getElem?_eq_some_iff.mp hq).1
      refine ⟨y, _, rfl, SqT.of (s2 _ _ hy), rfl, _, _, rfl, _, _, rfl, _, _, rfl, rfl, rfl, _, rfl, ?_⟩
      have t8 : SameT H2 (upd H2 D (.lst (us.map V.ref ++ [V.ref b1]))) := SameT.chg hD (fun z => z)
      refine ⟨_, hD, small1000 (by rw [List.length_map, lu]; omega), us ++ [b1], by rw [upd_same, List.map_append]; rfl, fun x o z => by rw [upd_ne (ne_of_none z nD)]; exact s2 x o z, ?_⟩
      rw [List.range_succ]
      exact (hus.mono fun x i hx => hx.sameT t8).snoc ((ho.same s2).sameT t8)
    · rintro H2 ⟨us, hD, s2, hus⟩
      rw [List.length_map, lt] at hus
      have lu : us.length = xs.length := by rw [hus.len, List.length_range]
      have s02 := s1.trans s2
      have nDH : H D = none := s1.free nD
      refine ⟨_, rfl, p, ts.map V.ref, 1, rfl, rfl, by decide, by decide, SqL.of (s2 _ _ hp), for_it (EN.walk_enumC (xs := ts.map V.ref)) (fun i τ H' => ∃ v3 v4 v6 v7, τ = [some (.ref b), some (.ref a), some (.ref p), v3, v4, some (.ref D), v6, v7] ∧ Same H2 H' ∧ ∀ j, j < i → ¬ BadAt BB xs j)
        ⟨_, _, _, _, rfl, Same.refl H2, fun j h => by omega⟩ (fun i τ H' _ ⟨_, _, _, _, _, s3, _⟩ => SqL.of (s3 _ _ (s2 _ _ hp))) ?_ ?_⟩
      · rintro i x τ H3 H4 hi ⟨v3, v4, v6, v7, rfl, s3, hno⟩ ⟨T', x1, x2, rfl, nT, rfl, e1, e2⟩
        cases e1
        have e2 : (ts.map V.ref)[i]? = some x2 := e2
        rw [List.getElem?_map] at e2
        cases hq : ts[i]? with
        | none => rw [hq] at e2; cases e2
        | some y =>
        rw [hq] at e2
        cases e2
        rw [List.length_map, lt] at hi
        obtain ⟨j, ej, hy⟩ := hts.at hq
        obtain rfl : j = i := by
          have hi : i < (List.range xs.length).length := (List.getElem?_eq_some_iff.mp ej).1
          rw [List.getElem?_eq_getElem hi, List.getElem_range] at ej
          exact (Option.some.inj ej).symm
        have s4 := same_new (o := .tup [.int (1 + ((j : Nat) : Int)), .ref y]) s3 nT
        have hT4 : (upd H3 T' (.tup [.int (1 + ((j : Nat) : Int)), .ref y])) T' = some (.tup [.int (1 + ((j : Nat) : Int)), .ref y]) := upd_same
        generalize upd H3 T' (.tup [.int (1 + ((j : Nat) : Int)), .ref y]) = H4 at s4 hT4
        obtain ⟨a1, b1, c1, hy, _, ho, hst, hsr⟩ := hy.same (s2.trans s4)
        obtain ⟨m, v, fl, h1, h2, h3, h4⟩ := ho
        refine ⟨T', _, rfl, SqT.of hT4, rfl, _, _, rfl, _, _, rfl, ⟨y, _, rfl, SqT.of hy, rfl, _, _, rfl, _, _, rfl, _, _, rfl, rfl, rfl, ?_⟩⟩
        refine ⟨_, rfl, b1, _, _, .str (outN BB xs j).word, rfl, rfl, SqT.of h1, rfl, rfl, _, rfl, ?_⟩
        rw [ds]
        have more : ¬ BadAt BB xs j → ∀ i, i < j + 1 → ¬ BadAt BB xs i := fun nb i hi => by
          rcases Nat.lt_or_eq_of_le (Nat.le_of_lt_succ hi) with h | h
          · exact hno i h
          · rw [h]; exact nb
        by_cases c : (outN BB xs j).word = "commit"
        · rw [decide_eq_true c]
          have s24 := s4
          refine iteT ⟨_, rfl, _, rfl, _, rfl, _, rfl, D, us.map V.ref, rfl, SqL.of (s4 _ _ hD), fun C nC => ?_⟩
          have ecut : cutV (us.map V.ref) none (some (1 + ((j : Nat) : Int))) = (us.take (j + 1)).map V.ref := by
            unfold cutV
            rw [show (1 + ((j : Nat) : Int)) = ((j + 1 : Nat) : Int) from by omega, HT.sIx_nat, HT.sIx_none, Nat.sub_zero, List.drop_zero, List.length_map, lu, Nat.min_eq_left (by omega), List.map_take]
          rw [ecut]
          have s5 := same_new (o := .lst ((us.take (j + 1)).map V.ref)) s4 nC
          have s45 := same_new (o := .lst ((us.take (j + 1)).map V.ref)) (Same.refl H4) nC
          have hC5 : (upd H4 C (.lst ((us.take (j + 1)).map V.ref))) C = some (.lst ((us.take (j + 1)).map V.ref)) := upd_same
          generalize upd H4 C (.lst ((us.take (j + 1)).map V.ref)) = H5 at s5 s45 hC5
          have s05 := s02.trans s5
          refine ⟨_, rfl, a, C, c1, ws, xs, BB, us.take (j + 1), j + 1, rfl, s05.seq R.seq, (hrun.same s05), hkd, by rw [← hB]; exact hf, hl, hC5, ?_, by omega, hst.same s45, fun r H6 s6 hr => ?_⟩
          · have h := (hus.take (j + 1)).mono (R' := fun q i => OutAt H5 q (outN BB xs i)) fun x i hx => hx.same s5
            rw [List.take_range, Nat.min_eq_left (by omega)] at h
            exact h
          cases r with
          | true =>
            refine ⟨_, rfl, ?_⟩
            exact iteF ⟨_, _, _, _, rfl, s5.trans s6, more fun z => z.2 (hr.mp rfl)⟩
          | false =>
            refine ⟨_, rfl, ?_⟩
            refine iteT ⟨_, rfl, ?_⟩
            exact kT hall H6 (some (1 + ((j : Nat) : Int))) (s05.trans s6) ⟨j, rfl, by omega, ⟨c, fun z => by have := hr.mpr z; cases this⟩, hno⟩
        · rw [decide_eq_false c]
          refine iteF ?_
          exact ⟨_, _, _, _, rfl, s4, more fun z => c z.1⟩
      · rintro τ H3 ⟨v3, v4, v6, v7, rfl, s3, hno⟩
        rw [List.length_map, lt] at hno
        exact kT hall H3 none (s02.trans s3) hno
end
end K27

namespace K27
open PySem L2 SI CM BK OWN MIR StX TX TL
section
variable {w : World} {K : PySem.W.Frag} {mg : Str → Option Value} {base : Heap} (T : Txt w K mg)
/-- the texts of all ways -/
def WAYSL : List (List Wd) := ENT.flatMap WYS
theorem tupS {K : PySem.W.Frag} {H H' : Hp} {a : Addr} {xs : List V} (s : Same H H') (h : SqT K H a xs) : SqT K H' a xs := by
  rcases h with (h | ⟨o, h⟩) | h
  · exact .inl (.inl (s _ _ h))
  · exact .inl (.inr ⟨o, s _ _ h⟩)
  · exact .inr h
def wsO : List Addr := [T.o0_WAYS, T.o1_WAYS, T.o2_WAYS, T.o3_WAYS, T.o4_WAYS, T.o5_WAYS, T.o6_WAYS, T.o7_WAYS, T.o8_WAYS, T.o9_WAYS, T.o10_WAYS, T.o11_WAYS, T.o12_WAYS, T.o13_WAYS]
theorem wsO_at : F2 (fun o e => ∀ H, SqT K H o (tokL (WYS e))) (wsO T) ENT := by
  exact (.cons (fun H => by rw [show tokL (WYS "read late") = [.str "w2 c2 r1"] by decide +kernel]; exact T.q0_WAYS H)
    (.cons (fun H => by rw [show tokL (WYS "read under") = [.str "w2 c2 w3 r1"] by decide +kernel]; exact T.q1_WAYS H)
    (.cons (fun H => by rw [show tokL (WYS "read below") = [.str "w2 r1"] by decide +kernel]; exact T.q2_WAYS H)
    (.cons (fun H => by rw [show tokL (WYS "read above") = [.str "w1 r2"] by decide +kernel]; exact T.q3_WAYS H)
    (.cons (fun H => by rw [show tokL (WYS "write late") = [.str "w2 c2 w1"] by decide +kernel]; exact T.q4_WAYS H)
    (.cons (fun H => by rw [show tokL (WYS "write under") = [.str "w2 c2 w3 w1"] by decide +kernel]; exact T.q5_WAYS H)
    (.cons (fun H => by rw [show tokL (WYS "write below") = [.str "w2 w1"] by decide +kernel]; exact T.q6_WAYS H)
    (.cons (fun H => by rw [show tokL (WYS "write above") = [.str "w1 w2"] by decide +kernel]; exact T.q7_WAYS H)
    (.cons (fun H => by rw [show tokL (WYS "write free passed") = [.str "r2 w1"] by decide +kernel]; exact T.q8_WAYS H)
    (.cons (fun H => by rw [show tokL (WYS "write own passed") = [.str "w1 r2 w1", .str "r2 w1 w1"] by decide +kernel]; exact T.q9_WAYS H)
    (.cons (fun H => by rw [show tokL (WYS "write late passed") = [.str "r2 w2 c2 w1"] by decide +kernel]; exact T.q10_WAYS H)
    (.cons (fun H => by rw [show tokL (WYS "write under passed") = [.str "r2 w2 c2 w3 w1"] by decide +kernel]; exact T.q11_WAYS H)
    (.cons (fun H => by rw [show tokL (WYS "write below passed") = [.str "r2 w2 w1"] by decide +kernel]; exact T.q12_WAYS H)
    (.cons (fun H => by rw [show tokL (WYS "write above passed") = [.str "w1 r3 w2", .str "r3 w1 w2"] by decide +kernel]; exact T.q13_WAYS H)
    .nil))))))))))))))
def spWays : Sp := fun vs H Q _ => vs = [] ∧ ∀ (H' : Hp) (q : Addr), Same H H' → H q = none → H' q = some (.lst (tokL WAYSL)) → Q (.ref q) H'
theorem ok_ways : FnOk PP w K mg base CX0 1 T.f_ways T.d_ways [] spWays := by
  refine T.F_ways.ok sc_ways (fun vs H Q E h => ?_) (fun cdv A outer s H vs Q E hr h => ?_)
  · obtain ⟨rfl, _⟩ := h
    rfl
  · obtain ⟨rfl, k⟩ := h
    refine ⟨_, pss_one (ps_ret (pe_lc2 (own := [("texts", 0), ("text", 1)]) (vs1 := [1]) (g := gName 0) (tt := tYes) (g1 := gName 1) (tt1 := tYes) (te := tVar 1) (wi1 := iTup K (tVar 0)) (by rfl) sc_ways.nd (pi_valuesK T.kd_WAYS T.kv_WAYS ent_nodup (pe_glob (v := .ref T.o_WAYS) (by rfl) T.g_WAYS rfl)) (blkOk_by (N := ["texts", "text"]) (sc := defScope s_ways) (by decide +kernel)) (by decide) (fun _ _ _ _ _ => pg_name (i := 0) sc_ways.nd rfl (Or.inl rfl)) (fun _ _ _ _ _ => pts_nil) (fun _ _ _ _ _ => pi_tup (pv 0)) (fun _ _ _ _ _ => pg_name (i := 1) sc_ways.nd rfl (Or.inl rfl)) (fun _ _ _ _ _ => pts_nil) (fun _ _ _ _ _ => pv 1))), ?_⟩
    refine fun D nD => ?_
    refine lc2_out (walk_valsK (xs := (wsO T).map V.ref)) (fun i H' => Same H H' ∧ H' D = some (.lst (tokL ((ENT.take i).flatMap WYS)))) ⟨same_new (Same.refl H) nD, upd_same⟩ (fun _ _ _ _ => trivial) ?_ ?_
    · rintro i x H1 H1' hi ⟨s1, hD⟩ ⟨rfl, hx⟩
      rw [List.getElem?_map] at hx
      obtain ⟨o, ho, rfl⟩ : ∃ o, (wsO T)[i]? = some o ∧ x = V.ref o := by
        cases z : (wsO T)[i]? with
        | none => rw [z] at hx; cases hx
        | some o => rw [z] at hx; exact ⟨o, rfl, (Option.some.inj hx).symm⟩
      obtain ⟨e, he, hq⟩ := F2.at (wsO_at T) ho
      have hi : i < 14 := hi
      have le2 := (wys_ok e (List.mem_of_getElem? he)).2.1
      refine ⟨rfl, _, rfl, o, rfl, ⟨_, hq _⟩, ?_⟩
      refine lc2_in (walk_tup (K := K) (a := o) (xs := tokL (WYS e))) (fun j H' => Same H H' ∧ H' D = some (.lst (tokL ((ENT.take i).flatMap WYS) ++ (tokL (WYS e)).take j))) ⟨s1, by rw [List.take_zero, List.append_nil]; exact hD⟩ (fun _ H' _ _ => hq H') ?_ ?_
      · rintro j y H2 H2' hj ⟨s2, hD2⟩ ⟨rfl, hy⟩
        obtain ⟨L, hL, rfl⟩ : ∃ L, (WYS e)[j]? = some L ∧ y = V.str (txK L) := by
          rw [List.getElem?_map] at hy
          cases z : (WYS e)[j]? with
          | none => rw [z] at hy; cases hy
          | some L => rw [z] at hy; exact ⟨L, rfl, (Option.some.inj hy).symm⟩
        have hb : ((ENT.take i).flatMap WYS).length ≤ 28 := by
          have : ∀ i, i < 14 → ((ENT.take i).flatMap WYS).length ≤ 28 := by decide +kernel
          exact this i hi
        refine ⟨rfl, _, rfl, _, hD2, small1000 (by rw [List.length_append, List.length_map, List.length_take, List.length_map]; omega), fun b o z => ?_, ?_⟩
        · rw [upd_ne (ne_of_none z nD)]; exact s2 _ _ z
        · rw [upd_same, List.append_assoc, List.take_add_one, List.getElem?_map, hL]; rfl
      · rintro H2 ⟨s2, hD2⟩
        refine ⟨s2, ?_⟩
        rw [hD2, List.take_length, List.take_add_one, he, List.flatMap_append]
        simp [tokL]
    · rintro H1 ⟨s1, hD⟩
      have e14 : ((wsO T).map V.ref).length = 14 := rfl
      rw [e14] at hD
      exact k H1 D s1 nD hD
/-- a text and an end -/
def fmtS (t e : Str) : Str := Str.empty ++ t ++ " " ++ e
def spFollowed (K : PySem.W.Frag) : Sp := fun vs H Q _ => ∃ (a b : Addr) (ts es : List Str), vs = [.ref a, .ref b] ∧ SqL K H a (ts.map V.str) ∧ SqT K H b (es.map V.str) ∧ ts.length * es.length ≤ 900 ∧ (∀ t ∈ ts, t.length ≤ 900) ∧ (∀ e ∈ es, e.length ≤ 900) ∧
  ∀ (H' : Hp) (q : Addr), Same H H' → H q = none → H' q = some (.lst ((ts.flatMap fun t => es.map fun e => fmtS t e).map V.str)) → Q (.ref q) H'
theorem ok_followed : FnOk PP w K mg base CX0 1 T.f_followed T.d_followed ["texts", "ends"] (spFollowed K) := by
  refine T.F_followed.ok sc_followed (fun vs H Q E h => ?_) (fun cdv A outer s H vs Q E hr h => ?_)
  · obtain ⟨a, b, ts, es, rfl, _⟩ := h
    rfl
  · obtain ⟨a, b, ts, es, rfl, ha, hb, hl, ht, he, k⟩ := h
    refine ⟨_, pss_one (ps_ret (pe_lc2 (own := [("text", 2), ("end", 3)]) (vs1 := [3]) (g := gName 2) (tt := tYes) (g1 := gName 3) (tt1 := tYes) (wi1 := iTup K (tVar 1)) (by rfl) sc_followed.nd (pi_list (pv 0)) (blkOk_by (N := ["texts", "ends", "text", "end"]) (sc := defScope s_followed) (by decide +kernel)) (by decide) (fun _ _ _ _ _ => pg_name (i := 2) sc_followed.nd rfl (Or.inl rfl)) (fun _ _ _ _ _ => pts_nil) (fun _ _ _ _ _ => pi_tup (pv 1)) (fun _ _ _ _ _ => pg_name (i := 3) sc_followed.nd rfl (Or.inl rfl)) (fun _ _ _ _ _ => pts_nil) (fun _ _ _ _ _ => (pe_joined (.cons (pe_fmt (pv 2)) (.cons pe_str (.cons (pe_fmt (pv 3)) .nil))))))), ?_⟩
    refine ⟨_, rfl, a, rfl, ⟨_, ha⟩, fun D nD => ?_⟩
    refine lc2_out (walk_list (K := K) (a := a) (xs := ts.map V.str)) (fun i H' => Same H H' ∧ H' D = some (.lst (((ts.take i).flatMap fun t => es.map fun e => fmtS t e).map V.str))) ⟨same_new (Same.refl H) nD, upd_same⟩ (fun _ _ _ z => z.1.seq ha) ?_ ?_
    · rintro i x H1 H1' hi ⟨s1, hD⟩ ⟨rfl, hx⟩
      obtain ⟨t, hti, rfl⟩ : ∃ t, ts[i]? = some t ∧ x = V.str t := by
        rw [List.getElem?_map] at hx
        cases z : ts[i]? with
        | none => rw [z] at hx; cases hx
        | some o => rw [z] at hx; exact ⟨o, rfl, (Option.some.inj hx).symm⟩
      have htl := ht t (List.mem_of_getElem? hti)
      have hi2 := (List.getElem?_eq_some_iff.mp hti).1
      have hlen : (((ts.take i).flatMap fun t => es.map fun e => fmtS t e)).length = i * es.length := by
        have g : ∀ l : List Str, (l.flatMap fun t => es.map fun e => fmtS t e).length = l.length * es.length := fun l => by
          induction l with
          | nil => simp
          | cons x l ih => rw [List.flatMap_cons, List.length_append, ih, List.length_map, List.length_cons, Nat.add_mul, Nat.one_mul, Nat.add_comm]
        rw [g, List.length_take, Nat.min_eq_left (by omega)]
      refine ⟨rfl, _, rfl, b, rfl, ⟨_, tupS s1 hb⟩, ?_⟩
      refine lc2_in (te := fun σ H Q => tJs [tFmt (tVar 2), tC (.str " "), tFmt (tVar 3)] Str.empty σ H fun out H1 => Q (.str out) H1) (walk_tup (K := K) (a := b) (xs := es.map V.str)) (fun j H' => Same H H' ∧ H' D = some (.lst (((ts.take i).flatMap fun t => es.map fun e => fmtS t e).map V.str ++ (es.take j).map fun e => V.str (fmtS t e)))) ⟨s1, by rw [List.take_zero, List.map_nil, List.append_nil]; exact hD⟩ (fun _ H' _ z => tupS z.1 hb) ?_ ?_
      · rintro j y H2 H2' hj ⟨s2, hD2⟩ ⟨rfl, hy⟩
        obtain ⟨e, hej, rfl⟩ : ∃ e, es[j]? = some e ∧ y = V.str e := by
          rw [List.getElem?_map] at hy
          cases z : es[j]? with
          | none => rw [z] at hy; cases hy
          | some o => rw [z] at hy; exact ⟨o, rfl, (Option.some.inj hy).symm⟩
        have hel := he e (List.mem_of_getElem? hej)
        have hj2 := (List.getElem?_eq_some_iff.mp hej).1
        have hmul : i * es.length + es.length ≤ 900 := by
          have : (i + 1) * es.length ≤ ts.length * es.length := Nat.mul_le_mul_right _ hi2
          rw [Nat.add_mul, Nat.one_mul] at this
          omega
        have e0 : (Str.ofString " ").length = 1 := by decide +kernel
        have l0 : (Str.empty ++ t).length ≤ 900 := by rw [str_len_app]; show 0 + t.length ≤ 900; omega
        refine ⟨rfl, _, rfl, .inl ⟨t, rfl, ?_, t, rfl, ?_, " ", rfl, ?_, _, rfl, .inl ⟨e, rfl, ?_, e, rfl, ?_, ?_⟩⟩⟩
        · exact Nat.le_of_lt (small1000 (by omega))
        · exact Nat.le_of_lt (small1000 (by omega))
        · rw [str_len_app, e0]; exact Nat.le_of_lt (small1000 (by omega))
        · exact Nat.le_of_lt (small1000 (by omega))
        · rw [str_len_app, str_len_app, e0]
          have : 1801 ≤ sizeLine := by decide
          omega
        · refine ⟨_, hD2, small1000 (by rw [List.length_append, List.length_map, hlen, List.length_map, List.length_take]; omega), fun b o z => ?_, ?_⟩
          · rw [upd_ne (ne_of_none z nD)]; exact s2 _ _ z
          · rw [upd_same, List.append_assoc, List.take_add_one, hej, List.map_append]; rfl
      · rintro H2 ⟨s2, hD2⟩
        refine ⟨s2, ?_⟩
        rw [hD2, List.length_map, List.take_length, List.take_add_one, hti, List.flatMap_append]
        simp
    · rintro H1 ⟨s1, hD⟩
      rw [List.length_map, List.take_length] at hD
      exact k H1 D s1 nD hD
abbrev ka (n : Nat) : Wd := (.ab, n)
def BHD : List (List Wd) := [[kc 1], [kc 2], [kc 1, kc 2], [kc 2, kc 1], [kc 3, kc 1]]
def FLT : List (List Wd) := [[kw 2, kc 2, kw 1, kr 1, kc 1], [kw 2, kw 1, kr 1, kc 2, kc 1], [kw 2, kw 1, kc 2, kr 1, kc 1], [kw 2, kc 2, kw 1, kw 3, kr 1, kc 1], [kw 2, kc 2, kw 3, kw 1, kr 1, kc 1], [kw 2, kw 1, kc 2, kw 3, kr 1, kc 1], [kw 2, kc 2, kw 3, kw 1, ka 3, kr 1, kc 1]]
def FALL : List (List Wd) := (WAYSL.flatMap fun L => BHD.map fun M => L ++ M) ++ FLT
/-- the runs that may have a fault, the shortest ones first -/
def FR : List (List Wd) := srtL FALL
theorem fall_tx : ((WAYSL.map txK).flatMap fun t => (BHD.map txK).map fun e => fmtS t e) ++ FLT.map txK = FALL.map txK := by decide +kernel
theorem fall_ok : ∀ L ∈ FALL, (∀ x ∈ L, 1 ≤ x.2 ∧ x.2 ≤ topN) ∧ L.length ≤ 8 ∧ L ≠ [] := by decide +kernel
theorem fall_len : FALL.length = 87 := by decide +kernel
theorem ways_len : (WAYSL.map txK).length = 16 ∧ ∀ t ∈ WAYSL.map txK, t.length ≤ 900 := by decide +kernel
theorem bhd_len : (BHD.map txK).length = 5 ∧ ∀ t ∈ BHD.map txK, t.length ≤ 900 := by decide +kernel
def spFaultRuns : Sp := fun vs H Q _ => vs = [] ∧ ∀ (H' : Hp) (q : Addr) (ps : List Addr), Same H H' → H q = none → H' q = some (.lst (ps.map V.ref)) → RunsK H' ps FR → Q (.ref q) H'
theorem ok_fault_runs : FnOk PP w K mg base CX0 6 T.f_fault_runs T.d_fault_runs [] spFaultRuns := by
  refine T.F_fault_runs.ok sc_fault_runs (fun vs H Q E h => ?_) (fun cdv A outer s H vs Q E hr h => ?_)
  · obtain ⟨rfl, _⟩ := h
    rfl
  · obtain ⟨rfl, k⟩ := h
    refine ⟨_, pss_one (ps_ret (pe_call (ok_shortest T) (hr.mono (by decide)) (by rfl) T.g_shortest_first T.F_shortest_first.kp (b_shortest_first T) .nil pass0 (pa_cons (pe_lst (pa_star (pe_call (ok_followed T) (hr.mono (by decide)) (by rfl) T.g_followed T.F_followed.kp (b_followed T) .nil pass0 (pa_cons (pe_call0 (ok_ways T) (hr.mono (by decide)) (by rfl) T.g_ways T.F_ways.kp (b_ways T) .nil pass0) (pa_cons (pe_glob (v := .ref T.o_FAULTS_BEHIND) (by rfl) T.g_FAULTS_BEHIND rfl) pa_nil))) (pa_star (pe_glob (v := .ref T.o_FAULTS) (by rfl) T.g_FAULTS rfl) pa_nil))) pa_nil))), ?_⟩
    refine ⟨rfl, fun H1 q s1 nq hq => ⟨q, T.o_FAULTS_BEHIND, WAYSL.map txK, BHD.map txK, rfl, SqL.of (by rw [hq, List.map_map]; rfl), ?_, ?_, ways_len.2, bhd_len.2, fun H2 q2 s2 nq2 hq2 => ?_⟩⟩
    · have z := T.q_FAULTS_BEHIND H1
      rw [show (BHD.map txK).map V.str = [.str "c1", .str "c2", .str "c1 c2", .str "c2 c1", .str "c3 c1"] by decide +kernel]
      exact z
    · rw [ways_len.1, bhd_len.1]; decide
    · have zF := T.q_FAULTS H2
      have eF : (FLT.map txK).map V.str = [.str "w2 c2 w1 r1 c1", .str "w2 w1 r1 c2 c1", .str "w2 w1 c2 r1 c1", .str "w2 c2 w1 w3 r1 c1", .str "w2 c2 w3 w1 r1 c1", .str "w2 w1 c2 w3 r1 c1", .str "w2 c2 w3 w1 a3 r1 c1"] := by decide +kernel
      rw [← eF] at zF
      refine ⟨q2, _, rfl, .inr (SqL.of hq2), T.o_FAULTS, _, rfl, .inl zF, ?_⟩
      have eA : (((WAYSL.map txK).flatMap fun t => (BHD.map txK).map fun e => fmtS t e).map V.str) ++ ((FLT.map txK).map V.str ++ []) = FALL.map fun L => V.str (txK L) := by
        rw [List.append_nil, ← List.map_append, fall_tx, List.map_map]; rfl
      dsimp only [tNil]
      rw [eA]
      refine ⟨by rw [List.length_map, fall_len]; decide, fun l nl => ⟨l, FALL, rfl, SqL.of upd_same, by rw [fall_len]; decide, fun L hL => ⟨(fall_ok L hL).1, by have := (fall_ok L hL).2.1; omega⟩, fun H3 q3 ps s3 nq3 hq3 hR => ?_⟩⟩
      have s13 := (s1.trans s2).trans ((same_new (Same.refl H2) nl).trans s3)
      exact k H3 q3 ps s13 (((s1.trans s2).trans (same_new (Same.refl H2) nl)).free nq3) hq3 hR
def HasF (B : Bkm) (L : List Wd) : Prop := ∃ m, FaultIs B (xsK L) (some m)
def spHasF (CB : Addr) : Sp := fun vs H Q _ => ∃ (b dxb d : Addr) (f : Str → Str) (r : Str) (k : Nat) (p : Addr) (L : List Wd), vs = [.ref b, .ref p] ∧ Bk CB H b dxb d f r (k : Int) ∧ (∀ x ∈ ENT, f x ∈ chs x) ∧ 1 ≤ k ∧ k ≤ 20 ∧ IsRun H p L "x" ∧ Good L ∧ L.length ≤ 100 ∧
  ∀ (H' : Hp) (c : Bool), Same H H' → (c = true ↔ HasF ⟨f, r, k⟩ L) → Q (.bl c) H'
theorem ok_has_fault : FnOk PP w K mg base (L2.CX PP w) 13 T.f_has_fault T.d_has_fault ["book", "run"] (spHasF T.c_Book) := by
  refine T.F_has_fault.okX sc_has_fault (fun vs H Q E h => ?_) (fun cdv A outer s H vs Q E hr h => ?_)
  · obtain ⟨b, dxb, d, f, r, k, p, L, rfl, _⟩ := h
    rfl
  · obtain ⟨b, dxb, d, f, r, k, p, L, rfl, B, hf, k1, k20, hr0, g, le, kk⟩ := h
    refine ⟨_, pss_one (ps_ret (pe_cmpR op_notN (pe_call (ok_fault T) (hr.mono (by decide)) (by rfl) T.g_fault T.F_fault.kp (b_fault T) .nil (passes_call (takes_of rfl rfl rfl rfl) fun _ _ _ _ h => h) (pa_cons (pv 0) (pa_cons (pv 1) pa_nil))) pe_non (nomark _))), ?_⟩
    obtain ⟨ws, lr⟩ := hr0.lrun g le
    refine ⟨_, rfl, _, rfl, b, dxb, d, f, r, k, p, ws, _, xsK L, rfl, B, hf, k1, k20, lr.q, fun _ H1 o s1 hF => ⟨rfl, kk H1 _ s1 ?_⟩, fun i h _ => ?_⟩
    · cases o with
      | none => exact ⟨fun z => (by cases z), fun ⟨m, hm⟩ => (by have z := FaultIs.uniq hF hm; cases z)⟩
      | some m => exact ⟨fun _ => ⟨m, hF⟩, fun _ => rfl⟩
    · rw [List.getElem?_map] at h
      cases z : (xsK L)[i]? with
      | none => rw [z] at h; cases h
      | some y => rw [z] at h; cases h
/-- the first of the runs that shows it -/
def spFirstF (K : PySem.W.Frag) (CB fh : Addr) : Sp := fun vs H Q _ => ∃ (b dxb d : Addr) (f : Str → Str) (r : Str) (k : Nat) (a : Addr) (ps : List Addr) (Ls : List (List Wd)), vs = [.ref fh, .ref b, .ref a] ∧ Bk CB H b dxb d f r (k : Int) ∧ (∀ x ∈ ENT, f x ∈ chs x) ∧ 1 ≤ k ∧ k ≤ 20 ∧
  H a = some (.lst (ps.map V.ref)) ∧ RunsK H ps Ls ∧ (∀ L ∈ Ls, Good L ∧ L.length ≤ 100) ∧
  ((∀ L ∈ Ls, ¬ HasF ⟨f, r, k⟩ L) → ∀ H', Same H H' → Q .non H') ∧ ∀ (i : Nat) (L : List Wd), Ls[i]? = some L → HasF ⟨f, r, k⟩ L → (∀ (j : Nat) M, j < i → Ls[j]? = some M → ¬ HasF ⟨f, r, k⟩ M) → ∀ (H' : Hp) (p : Addr), Same H H' → IsRun H' p L "x" → Q (.ref p) H'
theorem ok_first_that : FnOk PP w K mg base (L2.CX PP w) 14 T.f_first_that T.d_first_that ["shows", "book", "runs"] (spFirstF K T.c_Book T.f_has_fault) := by
  refine T.F_first_that.okX sc_first_that (fun vs H Q E h => ?_) (fun cdv A outer s H vs Q E hr h => ?_)
  · obtain ⟨b, dxb, d, f, r, k, a, ps, Ls, rfl, _⟩ := h
    rfl
  · obtain ⟨b, dxb, d, f, r, k, a, ps, Ls, rfl, B, hf, k1, k20, ha, hR, hG, kN, kY⟩ := h
    refine ⟨_, pss_cons (ps_for (passes_of rfl) rfl (pi_list (pv 2)) (pg_name (i := 3) sc_first_that.nd rfl (.inl rfl))
 (pss_one (ps_if (pt_truth (pe_callL (i := 0) (ok_has_fault T) (hr.mono (by decide)) rfl (.inl rfl) T.F_has_fault.kp (b_has_fault T) .nil (passes_call (takes_of rfl rfl rfl rfl) fun _ _ _ _ h => h) (pa_cons (pv 1) (pa_cons (pv 3) pa_nil))) (by intro _; rfl))
 (pss_one (ps_ret (pv 3)))
 pss_nil)))
 (pss_one (ps_ret pe_non)), ?_⟩
    refine ⟨_, rfl, a, rfl, ⟨_, SqL.of ha⟩, ?_⟩
    refine for_list (K := K) (xs := ps.map V.ref) (fun i τ H' => ∃ v2, τ = [some (.ref T.f_has_fault), some (.ref b), some (.ref a), v2] ∧ Same H H' ∧ ∀ (j : Nat) M, j < i → Ls[j]? = some M → ¬ HasF ⟨f, r, k⟩ M)
      ⟨none, rfl, Same.refl _, fun j M h => by omega⟩ (fun i τ H' _ ⟨_, _, z, _⟩ => SqL.of (z _ _ ha)) ?_ ?_
    · rintro i x τ H2 hx ⟨v2, rfl, s2, hno⟩
      obtain ⟨p2, hp2, rfl⟩ : ∃ p2, ps[i]? = some p2 ∧ x = V.ref p2 := by
        rw [List.getElem?_map] at hx
        cases z : ps[i]? with
        | none => rw [z] at hx; cases hx
        | some L => rw [z] at hx; exact ⟨L, rfl, (Option.some.inj hx).symm⟩
      obtain ⟨L, hL, hr0⟩ := F2.at hR hp2
      obtain ⟨g1, g2⟩ := hG L (List.mem_of_getElem? hL)
      have hrun := hr0.same s2
      refine ⟨rfl, _, rfl, _, rfl, b, dxb, d, f, r, k, p2, L, rfl, B.same s2, hf, k1, k20, hrun, g1, g2, fun H3 c s3 hc => ⟨_, rfl, ?_⟩⟩
      cases c with
      | true => exact iteT ⟨_, rfl, kY i L hL (hc.mp rfl) hno H3 p2 (s2.trans s3) (hrun.same s3)⟩
      | false =>
        refine iteF ⟨_, rfl, s2.trans s3, fun j M hj hM => ?_⟩
        rcases Nat.lt_or_eq_of_le (Nat.le_of_lt_succ hj) with q | q
        · exact hno j M q hM
        · rw [q, hL] at hM
          cases hM
          exact fun z => by have := hc.mpr z; cases this
    · rintro τ H2 ⟨v2, rfl, s2, hno⟩
      refine kN (fun L hL => ?_) H2 s2
      obtain ⟨j, hj⟩ := List.mem_iff_getElem?.mp hL
      exact hno j L (by rw [List.length_map, F2.len hR]; exact (List.getElem?_eq_some_iff.mp hj).1) hj
def spErring (CB : Addr) : Sp := fun vs H Q _ => ∃ (b dxb d : Addr) (f : Str → Str) (r : Str) (k : Nat), vs = [.ref b] ∧ Bk CB H b dxb d f r (k : Int) ∧ (∀ x ∈ ENT, f x ∈ chs x) ∧ 1 ≤ k ∧ k ≤ 20 ∧
  ((∀ L ∈ FR, ¬ HasF ⟨f, r, k⟩ L) → ∀ H', Same H H' → Q .non H') ∧ ∀ (i : Nat) (L : List Wd), FR[i]? = some L → HasF ⟨f, r, k⟩ L → (∀ (j : Nat) M, j < i → FR[j]? = some M → ¬ HasF ⟨f, r, k⟩ M) → ∀ (H' : Hp) (p : Addr), Same H H' → IsRun H' p L "x" → Q (.ref p) H'
theorem fr_ok : ∀ L ∈ FR, Good L ∧ L.length ≤ 8 ∧ L ≠ [] := fun L hL => by
  obtain ⟨y, hy, rfl⟩ := List.mem_map.mp hL
  obtain ⟨x, hx, rfl⟩ := List.mem_map.mp ((SKL.byK_stb _).perm.mem_iff.mp hy)
  exact fall_ok x hx
theorem ok_erring : FnOk PP w K mg base (L2.CX PP w) 15 T.f_erring T.d_erring ["book"] (spErring T.c_Book) := by
  refine T.F_erring.okX sc_erring (fun vs H Q E h => ?_) (fun cdv A outer s H vs Q E hr h => ?_)
  · obtain ⟨b, dxb, d, f, r, k, rfl, _⟩ := h
    rfl
  · obtain ⟨b, dxb, d, f, r, k, rfl, B, hf, k1, k20, kN, kY⟩ := h
    refine ⟨_, pss_one (ps_ret (pe_call (ok_first_that T) (hr.mono (by decide)) (by rfl) T.g_first_that T.F_first_that.kp (b_first_that T) .nil (passes_call (takes_of rfl rfl rfl rfl) fun _ _ _ _ h => h) (pa_cons (pe_glob (v := .ref T.f_has_fault) (by rfl) T.g_has_fault rfl) (pa_cons (pv 0) (pa_cons (pe_call0 (ok_fault_runs T) (hr.mono (by decide)) (by rfl) T.g_fault_runs T.F_fault_runs.kp (b_fault_runs T) .nil pass0) pa_nil))))), ?_⟩
    refine ⟨_, rfl, rfl, fun H1 q ps s1 nq hq hR => ?_⟩
    exact ⟨b, dxb, d, f, r, k, q, ps, FR, rfl, B.same s1, hf, k1, k20, hq, hR, fun L hL => ⟨(fr_ok L hL).1, by have := (fr_ok L hL).2.1; omega⟩, fun h H' s' => kN h H' (s1.trans s'), fun i L a1 a2 a3 H' p s' => kY i L a1 a2 a3 H' p (s1.trans s')⟩
end
end K27

/-! A machine that the kernel can run: states as lists, a book of which only some answers are known. -/
namespace MIR
open PySem L2 CM BK
def gt {α β : Type} [DecidableEq α] (l : List (α × β)) (a : α) : Option β := match l with
  | [] => none
  | (k, v) :: r => if k = a then some v else gt r a
structure CS where
  it : List (Str × It)
  ov : List (Int × Bool)
  bd : List (Int × List Int)
def CS.S (c : CS) : S := ⟨fun n => (gt c.it n).getD it0, fun t => gt c.ov t, fun t => (gt c.bd t).getD []⟩
def c0 : CS := ⟨[], [], []⟩
inductive R (α : Type) where
  | ok (a : α)
  | need (e : Str)
  | bad
section
variable {α β : Type} [DecidableEq α]
theorem gt_cons (k : α) (v : β) (l : List (α × β)) (a : α) : gt ((k, v) :: l) a = if k = a then some v else gt l a := rfl
theorem gt_map (f : β → β) (a : α) : ∀ l : List (α × β), gt (l.map fun p => (p.1, f p.2)) a = (gt l a).map f
  | [] => rfl
  | (k, v) :: r => by
    show (if k = a then some (f v) else gt (r.map fun p => (p.1, f p.2)) a) = _
    rw [gt_map f a r, gt_cons]
    split <;> rfl
theorem gt_mem {a : α} {b : β} : ∀ {l : List (α × β)}, gt l a = some b → (a, b) ∈ l
  | (k, v) :: r, h => by
    rw [gt_cons] at h
    split at h
    · rename_i e
      cases h
      rw [e]; exact List.mem_cons_self ..
    · exact List.mem_cons_of_mem _ (gt_mem h)
end
theorem s0_c : c0.S = s0 := rfl
/-! who falls -/
def clo (U : List Int) (c : CS) : Nat → List Int → List Int
  | 0, L => L
  | n + 1, L => clo U c n (L ++ U.filter fun t => !decide (t ∈ L) && ((gt c.ov t).isNone && ((gt c.bd t).getD []).any fun u => decide (u ∈ L)))
def prw : List Int → Bool
  | [] => true
  | x :: r => r.all (fun y => decide (x < y)) && prw r
theorem prw_ok : ∀ {l : List Int}, prw l = true → l.Pairwise (· < ·)
  | [], _ => .nil
  | x :: r, h => by
    have h' : (r.all (fun y => decide (x < y)) && prw r) = true := h
    rw [Bool.and_eq_true, List.all_eq_true] at h'
    exact .cons (fun y hy => of_decide_eq_true (h'.1 y hy)) (prw_ok h'.2)
def falC (U : List Int) (c : CS) (s : Int) : Option (List Int) :=
  let L := clo U c U.length [s]
  let M := U.filter fun t => decide (t ∈ L)
  if (prw M && (L.all (fun t => decide (t ∈ M)) && (U.all (fun t => decide (t ∈ L) || !((gt c.ov t).isNone && ((gt c.bd t).getD []).any fun u => decide (u ∈ L))) && c.bd.all fun p => decide (p.1 ∈ U)))) = true then some M else none
theorem clo_reach {U : List Int} {c : CS} {s : Int} : ∀ (n : Nat) (L : List Int), (∀ t ∈ L, Reach c.S s t) → (∀ t ∈ L, t ∈ clo U c n L) ∧ ∀ t ∈ clo U c n L, Reach c.S s t
  | 0, L, h => ⟨fun _ z => z, h⟩
  | n + 1, L, h => by
    have h2 : ∀ t ∈ L ++ U.filter (fun t => !decide (t ∈ L) && ((gt c.ov t).isNone && ((gt c.bd t).getD []).any fun u => decide (u ∈ L))), Reach c.S s t := fun t ht => by
      rcases List.mem_append.mp ht with ht | ht
      · exact h t ht
      · have z := (List.mem_filter.mp ht).2
        rw [Bool.and_eq_true, Bool.and_eq_true, List.any_eq_true] at z
        obtain ⟨_, z1, u, z2, z3⟩ := z
        exact .step (h u (of_decide_eq_true z3)) z2 (Option.isNone_iff_eq_none.mp z1)
    obtain ⟨a, b⟩ := clo_reach (U := U) (c := c) n _ h2
    exact ⟨fun t ht => a t (List.mem_append_left _ ht), b⟩
theorem falC_ok {U : List Int} {c : CS} {s : Int} {M : List Int} (h : falC U c s = some M) : fal c.S s = M := by
  unfold falC at h
  dsimp only at h
  split at h
  · rename_i e
    cases h
    rw [Bool.and_eq_true, Bool.and_eq_true, Bool.and_eq_true, List.all_eq_true, List.all_eq_true, List.all_eq_true] at e
    obtain ⟨e1, e2, e3, e4⟩ := e
    obtain ⟨r1, r2⟩ := clo_reach (U := U) (c := c) (s := s) U.length [s] fun t ht => by rw [List.mem_singleton.mp ht]; exact .refl
    refine fal_eq ⟨prw_ok e1, fun t => ⟨fun ht => r2 t (of_decide_eq_true (List.mem_filter.mp ht).2), fun ht => ?_⟩⟩
    have : t ∈ clo U c U.length [s] := by
      induction ht with
      | refl => exact r1 s (List.mem_singleton.mpr rfl)
      | @step t u _ m o ih =>
        have m' : u ∈ (gt c.bd t).getD [] := m
        have tU : t ∈ U := by
          cases z : gt c.bd t with
          | none => rw [z] at m'; cases m'
          | some l => exact of_decide_eq_true (e4 _ (gt_mem z))
        have z := e3 t tU
        rw [Bool.or_eq_true] at z
        rcases z with z | z
        · exact of_decide_eq_true z
        · exfalso
          have o' : gt c.ov t = none := o
          rw [o'] at z
          have : (((gt c.bd t).getD []).any fun u => decide (u ∈ clo U c U.length [s])) = true := List.any_eq_true.mpr ⟨u, m', decide_eq_true ih⟩
          rw [this] at z
          cases z
    exact of_decide_eq_true (e2 t this)
  · cases h
def ascC (U L : List Int) : Option (List Int) :=
  let M := U.filter fun t => decide (t ∈ L)
  if (prw M && L.all fun t => decide (t ∈ M)) = true then some M else none
theorem ascC_ok {U L M : List Int} (h : ascC U L = some M) : asc L = M := by
  unfold ascC at h
  dsimp only at h
  split at h
  · rename_i e
    cases h
    rw [Bool.and_eq_true, List.all_eq_true] at e
    exact asc_eq ⟨prw_ok e.1, fun x => ⟨fun hx => of_decide_eq_true (List.mem_filter.mp hx).2, fun hx => of_decide_eq_true (e.2 x hx)⟩⟩
  · cases h
/-! the changes -/
def fallC (c : CS) (L : List Int) : CS := ⟨c.it.map fun p => (p.1, relI L p.2), L.map (fun t => (t, false)) ++ c.ov, c.bd⟩
theorem gt_falls (L : List Int) (ov : List (Int × Bool)) (t : Int) : gt (L.map (fun t => (t, false)) ++ ov) t = if t ∈ L then some false else gt ov t := by
  induction L with
  | nil => rw [if_neg List.not_mem_nil]; rfl
  | cons x l ih =>
    show (if x = t then some false else gt (l.map (fun t => (t, false)) ++ ov) t) = _
    rw [ih]
    by_cases c : x = t
    · rw [if_pos c, if_pos (by rw [c]; exact List.mem_cons_self ..)]
    · rw [if_neg c]
      by_cases m : t ∈ l
      · rw [if_pos m, if_pos (List.mem_cons_of_mem _ m)]
      · rw [if_neg m, if_neg fun q => (List.mem_cons.mp q).elim (fun e => c e.symm) m]
theorem getD_map {β : Type} {f : β → β} {d : β} (h : f d = d) (o : Option β) : (o.map f).getD d = f (o.getD d) := by
  cases o with
  | none => exact h.symm
  | some b => rfl
theorem fallC_ok (c : CS) (L : List Int) : (fallC c L).S = fallS c.S L := by
  unfold fallC CS.S fallS
  congr 1
  · funext n
    show (gt (c.it.map fun p => (p.1, relI L p.2)) n).getD it0 = relI L ((gt c.it n).getD it0)
    rw [gt_map, getD_map rfl]
  · funext t
    exact gt_falls L c.ov t
def setL (s : Int) (k : Nat) (l : List (Str × It)) : List (Str × It) := l.map fun p => (p.1, setI s k p.2)
def commC (c : CS) (s : Int) (k : Nat) : CS := ⟨setL s k c.it, (s, true) :: c.ov, c.bd⟩
theorem commC_ok (c : CS) (s : Int) (k : Nat) : (commC c s k).S = commS c.S s k := by
  unfold commC CS.S commS setL
  congr 1
  · funext n
    show (gt (c.it.map fun p => (p.1, setI s k p.2)) n).getD it0 = setI s k ((gt c.it n).getD it0)
    rw [gt_map, getD_map rfl]
  · funext t
    show (if s = t then some true else gt c.ov t) = if t = s then some true else gt c.ov t
    by_cases e : s = t
    · rw [if_pos e, if_pos e.symm]
    · rw [if_neg e, if_neg fun q => e q.symm]
def bondC (c : CS) (s h : Int) : CS := if h ∈ (gt c.bd s).getD [] then c else ⟨c.it, c.ov, (s, (gt c.bd s).getD [] ++ [h]) :: c.bd⟩
theorem bondC_ok (c : CS) (s h : Int) : (bondC c s h).S = bondS c.S s h := by
  unfold bondC bondS
  show (if h ∈ (gt c.bd s).getD [] then c else _).S = if h ∈ (gt c.bd s).getD [] then c.S else _
  split
  · rfl
  · unfold CS.S
    congr 1
    funext t
    show (if s = t then some ((gt c.bd s).getD [] ++ [h]) else gt c.bd t).getD [] = if t = s then (gt c.bd s).getD [] ++ [h] else (gt c.bd t).getD []
    by_cases e : s = t
    · rw [if_pos e, if_pos e.symm]; rfl
    · rw [if_neg e, if_neg fun q => e q.symm]
def itC (c : CS) (n : Str) (i : It) : CS := ⟨(n, i) :: c.it, c.ov, c.bd⟩
theorem itC_ok (c : CS) (n : Str) (i : It) : (itC c n i).S = itS c.S n i := by
  unfold itC itS CS.S
  congr 1
  funext m
  show (if n = m then some i else gt c.it m).getD it0 = if m = n then i else (gt c.it m).getD it0
  by_cases e : n = m
  · rw [if_pos e, if_pos e.symm]; rfl
  · rw [if_neg e, if_neg fun q => e q.symm]
def CS.item (c : CS) (n : Str) : It := (gt c.it n).getD it0
def readC (c : CS) (n : Str) (s : Int) : CS := if s ≤ (c.item n).rd then c else itC c n { c.item n with rd := s }
theorem readC_ok (c : CS) (n : Str) (s : Int) : (readC c n s).S = readS c.S n s := by
  unfold readC readS
  show (if s ≤ (c.item n).rd then c else _).S = if s ≤ (c.item n).rd then c.S else _
  split
  · rfl
  · exact itC_ok c n _
/-! the asks -/
/-- what of a book's table is known -/
abbrev Tb := List (Str × Str)
def Agr (p : Tb) (f : Str → Str) : Prop := ∀ e a, gt p e = some a → f e = a
def R.bind {α β : Type} (r : R α) (f : α → R β) : R β := match r with
  | .ok a => f a
  | .need e => .need e
  | .bad => .bad
def R.of {α : Type} (o : Option α) : R α := match o with
  | some a => .ok a
  | none => .bad
theorem R.bind_ok {α β : Type} {r : R α} {f : α → R β} {b : β} (h : r.bind f = .ok b) : ∃ a, r = .ok a ∧ f a = .ok b := by
  cases r with
  | ok a => exact ⟨a, rfl, h⟩
  | need e => cases h
  | bad => cases h
theorem R.of_ok {α : Type} {o : Option α} {a : α} (h : R.of o = .ok a) : o = some a := by
  cases o with
  | none => cases h
  | some b => cases h; rfl
def ansC (p : Tb) (kind spot : Str) (e : Option Str) : R Str := match e with
  | none => .ok (fixM kind spot)
  | some e => match gt p e with
    | some a => .ok a
    | none => .need e
def metC : Option Str → List Str
  | none => []
  | some e => [e]
def ansQ (B : Bkm) (kind spot : Str) : Option Str → Str
  | none => fixM kind spot
  | some e => B.f e
noncomputable def askQ (B : Bkm) (σ : S) (kind : Str) (s : Int) (n : Str) (v : Int) (spot : Str) (met : List Str) (ans : Str) : S × Out :=
  let i := σ.it n
  if ans = "wait" then (σ, ⟨"wait", met, .tup [hInt i], []⟩)
  else if ans = "wound" then (fallS σ (fal σ (hInt i)), ⟨"wound", met, .non, fal σ (hInt i)⟩)
  else if ans = "abort" ∨ (ans = "old" ∧ oldM i s = []) then (fallS σ (fal σ s), ⟨"abort", met, .non, fal σ s⟩)
  else
    let σ' := if bindM B.ends spot ans = true then bondS σ s (hInt i) else σ
    if kind = "read" then (readS σ' n s, ⟨"read", met, valM i s ans, []⟩)
    else if ans = "skip" then (σ', ⟨"skip", met, .non, []⟩)
    else (itS σ' n { i with opn := some (s, v) }, ⟨"put", met, .non, []⟩)
theorem askM_Q (B : Bkm) (σ : S) (kind : Str) (s : Int) (n : Str) (v : Int) : askM B σ kind s n v = askQ B σ kind s n v (placeM s (lastV (σ.it n)).1 (hOf (σ.it n)))
    (metC (metM kind (placeM s (lastV (σ.it n)).1 (hOf (σ.it n))) (decide ((σ.it n).rd > s)))) (ansQ B kind (placeM s (lastV (σ.it n)).1 (hOf (σ.it n))) (metM kind (placeM s (lastV (σ.it n)).1 (hOf (σ.it n))) (decide ((σ.it n).rd > s)))) := by
  unfold askM askQ
  dsimp only
  cases metM kind (placeM s (lastV (σ.it n)).1 (hOf (σ.it n))) (decide ((σ.it n).rd > s)) <;> rfl
def askC (p : Tb) (ends : Str) (U : List Int) (c : CS) (kind : Str) (s : Int) (n : Str) (v : Int) : R (CS × Out) :=
  let i := c.item n
  let spot := placeM s (lastV i).1 (hOf i)
  let e := metM kind spot (decide (i.rd > s))
  let met : List Str := metC e
  (ansC p kind spot e).bind fun ans =>
  if ans = "wait" then .ok (c, ⟨"wait", met, .tup [hInt i], []⟩)
  else if ans = "wound" then (R.of (falC U c (hInt i))).bind fun L => .ok (fallC c L, ⟨"wound", met, .non, L⟩)
  else if ans = "abort" ∨ (ans = "old" ∧ oldM i s = []) then (R.of (falC U c s)).bind fun L => .ok (fallC c L, ⟨"abort", met, .non, L⟩)
  else
    let c' := if bindM ends spot ans = true then bondC c s (hInt i) else c
    if kind = "read" then .ok (readC c' n s, ⟨"read", met, valM i s ans, []⟩)
    else if ans = "skip" then .ok (c', ⟨"skip", met, .non, []⟩)
    else .ok (itC c' n { i with opn := some (s, v) }, ⟨"put", met, .non, []⟩)
theorem ansC_ok {p : Tb} {B : Bkm} {kind spot : Str} {e : Option Str} {ans : Str} (A : Agr p B.f) (h : ansC p kind spot e = .ok ans) : ansQ B kind spot e = ans := by
  unfold ansC at h
  cases e with
  | none => cases h; rfl
  | some e =>
    dsimp only at h
    split at h
    · rename_i a e2
      cases h
      exact A _ _ e2
    · cases h
theorem askC_ok {p : Tb} {B : Bkm} {U : List Int} {c c' : CS} {kind : Str} {s : Int} {n : Str} {v : Int} {o : Out} (A : Agr p B.f) (h : askC p B.ends U c kind s n v = .ok (c', o)) : askM B c.S kind s n v = (c'.S, o) := by
  unfold askC at h
  dsimp only at h
  obtain ⟨ans, h1, h2⟩ := R.bind_ok h
  clear h
  have ei : c.S.it n = c.item n := rfl
  rw [askM_Q, ei, ansC_ok A h1]
  unfold askQ
  dsimp only
  rw [ei]
  generalize metC (metM kind (placeM s (lastV (c.item n)).1 (hOf (c.item n))) (decide ((c.item n).rd > s))) = met at h2 ⊢
  split at h2
  · cases h2; rw [if_pos (by assumption)]
  · rename_i n1
    rw [if_neg n1]
    split at h2
    · rename_i e2
      obtain ⟨L, z1, z2⟩ := R.bind_ok h2
      cases z2
      rw [if_pos e2, falC_ok (R.of_ok z1), fallC_ok]
    · rename_i n2
      rw [if_neg n2]
      split at h2
      · rename_i e3
        obtain ⟨L, z1, z2⟩ := R.bind_ok h2
        cases z2
        rw [if_pos e3, falC_ok (R.of_ok z1), fallC_ok]
      · rename_i n3
        rw [if_neg n3]
        have eb : (if bindM B.ends (placeM s (lastV (c.item n)).1 (hOf (c.item n))) ans = true then bondS c.S s (hInt (c.item n)) else c.S) = (if bindM B.ends (placeM s (lastV (c.item n)).1 (hOf (c.item n))) ans = true then bondC c s (hInt (c.item n)) else c).S := by
          split
          · exact (bondC_ok _ _ _).symm
          · rfl
        rw [eb]
        generalize (if bindM B.ends (placeM s (lastV (c.item n)).1 (hOf (c.item n))) ans = true then bondC c s (hInt (c.item n)) else c) = d at h2 ⊢
        split at h2
        · cases h2; rw [if_pos (by assumption), readC_ok]
        · rename_i n4
          rw [if_neg n4]
          split at h2
          · cases h2; rw [if_pos (by assumption)]
          · rename_i n5
            rw [if_neg n5]
            cases h2
            rw [itC_ok]
def reqC (p : Tb) (ends : Str) (U : List Int) (c : CS) (kind : Str) (s : Int) (n : Str) (v : Int) : R (CS × Out) :=
  (askC p ends U c kind s n v).bind fun r =>
  if r.2.word ≠ "wound" then .ok r
  else if s ∈ r.2.fallen then .ok (r.1, { r.2 with word := "abort", val := .non })
  else (askC p ends U r.1 kind s n v).bind fun q => (R.of (ascC U (r.2.fallen ++ q.2.fallen))).bind fun L => .ok (q.1, ⟨q.2.word, r.2.met ++ q.2.met, q.2.val, L⟩)
theorem reqC_ok {p : Tb} {B : Bkm} {U : List Int} {c c' : CS} {kind : Str} {s : Int} {n : Str} {v : Int} {o : Out} (A : Agr p B.f) (h : reqC p B.ends U c kind s n v = .ok (c', o)) : reqM B c.S kind s n v = (c'.S, o) := by
  unfold reqC at h
  obtain ⟨⟨c1, o1⟩, h1, h2⟩ := R.bind_ok h
  have e1 := askC_ok A h1
  unfold reqM
  dsimp only
  rw [e1]
  dsimp only at h2 ⊢
  split at h2
  · cases h2; rw [if_pos (by assumption)]
  · rename_i n1
    rw [if_neg n1]
    split at h2
    · cases h2; rw [if_pos (by assumption)]
    · rename_i n2
      rw [if_neg n2]
      obtain ⟨⟨c2, o2⟩, h3, h4⟩ := R.bind_ok h2
      rw [askC_ok A h3]
      obtain ⟨L, z1, z2⟩ := R.bind_ok h4
      cases z2
      dsimp only
      rw [ascC_ok (R.of_ok z1)]
/-- big: no dict of versions is cut, k or more are kept -/
structure Kp where
  k : Nat
  big : Bool
def Kp.is (q : Kp) (keep : Nat) : Prop := keep = q.k ∨ (q.big = true ∧ q.k ≤ keep)
def fits (q : Kp) (c : CS) : Bool := !q.big || c.it.all fun p => decide (p.2.kept.length + 1 ≤ q.k)
theorem lastN_all {α : Type} {n : Nat} {l : List α} (h : l.length ≤ n) : lastN n l = l := by
  unfold lastN
  rw [Nat.sub_eq_zero_of_le h]; rfl
theorem setL_big {q : Kp} {keep : Nat} {s : Int} (hq : q.is keep) : ∀ {l : List (Str × It)}, (!q.big || l.all fun p => decide (p.2.kept.length + 1 ≤ q.k)) = true → setL s keep l = setL s q.k l := by
  rcases hq with rfl | ⟨hb, hk⟩
  · intro l _; rfl
  · intro l h
    rw [hb, Bool.not_true, Bool.false_or, List.all_eq_true] at h
    unfold setL
    refine List.map_congr_left fun p hp => ?_
    have z := of_decide_eq_true (h p hp)
    have : setI s keep p.2 = setI s q.k p.2 := by
      unfold setI
      split
      · split
        · rw [lastN_all (by rw [List.length_append]; show p.2.kept.length + 1 ≤ keep; omega), lastN_all (by rw [List.length_append]; exact z)]
        · rfl
      · rfl
    rw [this]
def takeC (p : Tb) (ends : Str) (q : Kp) (U : List Int) (c : CS) (x : Stp) (v : Int) : R (CS × Out) :=
  if (gt c.ov x.who).isSome = true then .ok (c, ⟨"void", [], .non, []⟩)
  else match x with
    | .com s =>
      let W := ((gt c.bd s).getD []).filter fun t => (gt c.ov t).isNone
      if W ≠ [] then (R.of (ascC U W)).bind fun L => .ok (c, ⟨"wait", [], .tup L, []⟩)
      else if fits q c = true then .ok (commC c s q.k, ⟨"commit", [], .non, []⟩) else .bad
    | .abo s => (R.of (falC U c s)).bind fun L => .ok (fallC c L, ⟨"abort", [], .non, L⟩)
    | .req k s n => reqC p ends U c k s n v
theorem takeC_ok {p : Tb} {B : Bkm} {q : Kp} {U : List Int} {c c' : CS} {x : Stp} {v : Int} {o : Out} (A : Agr p B.f) (hq : q.is B.keep) (h : takeC p B.ends q U c x v = .ok (c', o)) : takeM B c.S x v = (c'.S, o) := by
  unfold takeC at h
  unfold takeM
  show (if (gt c.ov x.who).isSome = true then _ else _) = _
  split at h
  · cases h; rw [if_pos (by assumption)]
  · rename_i n1
    rw [if_neg n1]
    cases x with
    | com s =>
      dsimp only at h ⊢
      have ew : waitsOf c.S s = ((gt c.bd s).getD []).filter fun t => (gt c.ov t).isNone := rfl
      rw [ew]
      split at h
      · rename_i n2
        obtain ⟨L, z1, z2⟩ := R.bind_ok h
        cases z2
        rw [if_pos n2, ascC_ok (R.of_ok z1)]
      · rename_i n2
        rw [if_neg n2]
        split at h
        · rename_i hf
          cases h
          have : commC c s q.k = commC c s B.keep := by
            unfold commC
            rw [setL_big hq hf]
          rw [this, commC_ok]
        · cases h
    | abo s =>
      dsimp only at h ⊢
      obtain ⟨L, z1, z2⟩ := R.bind_ok h
      cases z2
      rw [falC_ok (R.of_ok z1), fallC_ok]
    | req k s n =>
      dsimp only at h ⊢
      exact reqC_ok A h
/-- every way that a run can go, as far as it asks the book -/
def sym (ends : Str) (q : Kp) (U : List Int) (f : Tb → List Out → CS → Bool) : Nat → Tb → CS → List Out → Nat → List Stp → Bool
  | 0, _, _, _, _, _ => false
  | _ + 1, p, c, os, _, [] => f p os c
  | n + 1, p, c, os, i, x :: xs => match takeC p ends q U c x (1 + (i : Nat)) with
    | .ok r => sym ends q U f n p r.1 (os ++ [r.2]) (i + 1) xs
    | .need e => decide (e ∈ ENT) && (chs e).all fun a => sym ends q U f n ((e, a) :: p) c os i (x :: xs)
    | .bad => false
noncomputable def runM (B : Bkm) : S → Nat → List Stp → S × List Out
  | σ, _, [] => (σ, [])
  | σ, i, x :: xs => let r := takeM B σ x (1 + (i : Nat)); let z := runM B r.1 (i + 1) xs; (z.1, r.2 :: z.2)
theorem sym_ok {B : Bkm} {q : Kp} {U : List Int} {f : Tb → List Out → CS → Bool} (hf : ∀ x ∈ ENT, B.f x ∈ chs x) (hq : q.is B.keep) :
    ∀ (n : Nat) {p : Tb} {c : CS} {os : List Out} {i : Nat} {xs : List Stp}, Agr p B.f → sym B.ends q U f n p c os i xs = true → ∃ p' c', Agr p' B.f ∧ (runM B c.S i xs).1 = c'.S ∧ f p' (os ++ (runM B c.S i xs).2) c' = true
  | 0, _, _, _, _, _, _, h => by cases h
  | n + 1, p, c, os, i, [], A, h => ⟨p, c, A, rfl, by rw [show (runM B c.S i []).2 = [] from rfl, List.append_nil]; exact h⟩
  | n + 1, p, c, os, i, x :: xs, A, h => by
    unfold sym at h
    split at h
    · rename_i r e
      have e1 := takeC_ok (c' := r.1) (o := r.2) A hq e
      obtain ⟨p', c', a1, a2, a3⟩ := sym_ok hf hq n A h
      refine ⟨p', c', a1, ?_, ?_⟩
      · show (runM B (takeM B c.S x (1 + (i : Nat))).1 (i + 1) xs).1 = _
        rw [e1]; exact a2
      · show f p' (os ++ (takeM B c.S x (1 + (i : Nat))).2 :: (runM B (takeM B c.S x (1 + (i : Nat))).1 (i + 1) xs).2) c' = true
        rw [e1]
        rw [List.append_assoc] at a3
        exact a3
    · rename_i e _
      rw [Bool.and_eq_true, List.all_eq_true] at h
      have he := of_decide_eq_true h.1
      exact sym_ok hf hq n (fun e' a z => by
        rw [gt_cons] at z
        split at z
        · rename_i w; cases z; rw [← w]
        · exact A e' a z) (h.2 _ (hf e he))
    · cases h
end MIR

namespace K27
open PySem L2 SI CM BK OWN MIR StX TX TL
section
variable {w : World} {K : PySem.W.Frag} {mg : Str → Option Value} {base : Heap} (T : Txt w K mg)
theorem run_out (B : Bkm) (xs : List Stp) : ∀ (ys : List Stp) (i : Nat), xs.drop i = ys → (runM B (stN B xs i) i ys).2 = (List.range' i ys.length).map (outN B xs) ∧ (runM B (stN B xs i) i ys).1 = stN B xs (i + ys.length)
  | [], i, h => ⟨rfl, rfl⟩
  | y :: ys, i, h => by
    have hy : xs[i]? = some y := by
      have z := congrArg List.head? h
      rw [List.head?_drop] at z
      exact z
    have ht : xs.drop (i + 1) = ys := by
      have z := congrArg List.tail h
      rw [List.tail_drop] at z
      exact z
    have e1 : (takeM B (stN B xs i) y (1 + (i : Nat))).1 = stN B xs (i + 1) := (stN_at hy).symm
    have e2 : (takeM B (stN B xs i) y (1 + (i : Nat))).2 = outN B xs i := by unfold outN; rw [hy]
    obtain ⟨h1, h2⟩ := run_out B xs ys (i + 1) ht
    refine ⟨?_, ?_⟩
    · show (takeM B (stN B xs i) y (1 + (i : Nat))).2 :: (runM B (takeM B (stN B xs i) y (1 + (i : Nat))).1 (i + 1) ys).2 = _
      rw [e1, e2, h1]
      rfl
    · show (runM B (takeM B (stN B xs i) y (1 + (i : Nat))).1 (i + 1) ys).1 = _
      rw [e1, h2, List.length_cons, Nat.add_assoc, Nat.add_comm 1]
noncomputable def outsN (B : Bkm) (xs : List Stp) : List Out := (List.range' 0 xs.length).map (outN B xs)
theorem outsN_at {B : Bkm} {xs : List Stp} {i : Nat} (h : i < xs.length) : (outsN B xs)[i]? = some (outN B xs i) := by
  unfold outsN
  rw [List.getElem?_map, List.getElem?_range' h]
  simp
/-- the numbers of kept versions that differ for short runs -/
abbrev allQ : List Kp := [⟨1, false⟩, ⟨2, false⟩, ⟨3, false⟩, ⟨4, false⟩, ⟨5, false⟩, ⟨6, true⟩]
theorem allQ_is {k : Nat} (h : 1 ≤ k) : ∃ q ∈ allQ, q.is k := by
  by_cases h6 : 6 ≤ k
  · exact ⟨⟨6, true⟩, by simp, .inr ⟨rfl, h6⟩⟩
  · have : k = 1 ∨ k = 2 ∨ k = 3 ∨ k = 4 ∨ k = 5 := by omega
    rcases this with rfl | rfl | rfl | rfl | rfl
    · exact ⟨⟨1, false⟩, by simp, .inl rfl⟩
    · exact ⟨⟨2, false⟩, by simp, .inl rfl⟩
    · exact ⟨⟨3, false⟩, by simp, .inl rfl⟩
    · exact ⟨⟨4, false⟩, by simp, .inl rfl⟩
    · exact ⟨⟨5, false⟩, by simp, .inl rfl⟩
/-- at every setting and every table, as the kernel runs it -/
def symA (F : Tb → List Out → CS → Bool) (xs : List Stp) : Bool := ([("now" : Str), "after"] : List Str).all fun en => allQ.all fun q => sym en q [1, 2, 3] F 60 [] c0 [] 0 xs
theorem symA_ok {F : Tb → List Out → CS → Bool} {xs : List Stp} (h : symA F xs = true) {B : Bkm} (hf : ∀ x ∈ ENT, B.f x ∈ chs x) (he : isEnds (.str B.ends)) (hk : 1 ≤ B.keep) : ∃ p c, Agr p B.f ∧ F p (outsN B xs) c = true ∧ stN B xs xs.length = c.S := by
  obtain ⟨q, hq, hi⟩ := allQ_is hk
  unfold symA at h
  rw [List.all_eq_true] at h
  have he' : B.ends ∈ ([("now" : Str), "after"] : List Str) := by
    rcases he with z | z
    · rw [V.str.inj z]; simp
    · rw [V.str.inj z]; simp
  have h1 := h B.ends he'
  rw [List.all_eq_true] at h1
  obtain ⟨p, c, a1, a2, a3⟩ := sym_ok hf hi 60 (p := []) (fun e a z => by cases z) (h1 q hq)
  obtain ⟨r1, r2⟩ := run_out B xs xs 0 rfl
  have e0 : c0.S = stN B xs 0 := rfl
  rw [e0] at a2 a3
  rw [r1, List.nil_append] at a3
  rw [r2, Nat.zero_add] at a2
  exact ⟨p, c, a1, a3, a2⟩
end
end K27

namespace K27
open PySem L2 SI CM BK OWN MIR StX TX TL
section
variable {w : World} {K : PySem.W.Frag} {mg : Str → Option Value} {base : Heap} (T : Txt w K mg)
def rqC : Nat → List Stp → List Out → List (Int × Rq)
  | i, x :: xs, o :: os => rqOf i x o ++ rqC (i + 1) xs os
  | _, _, _ => []
theorem rqC_at (B : Bkm) (xs : List Stp) : ∀ (ys : List Stp) (i : Nat), xs.drop i = ys → rqN B xs (i + ys.length) = rqN B xs i ++ rqC i ys ((List.range' i ys.length).map (outN B xs))
  | [], i, h => by show rqN B xs i = rqN B xs i ++ []; rw [List.append_nil]
  | y :: ys, i, h => by
    have hy : xs[i]? = some y := by
      have z := congrArg List.head? h
      rw [List.head?_drop] at z
      exact z
    have ht : xs.drop (i + 1) = ys := by
      have z := congrArg List.tail h
      rw [List.tail_drop] at z
      exact z
    have e := rqC_at B xs ys (i + 1) ht
    have e1 : i + (y :: ys).length = i + 1 + ys.length := by rw [List.length_cons]; omega
    rw [e1, e, rqN_at hy, List.append_assoc]
    rfl
theorem rqC_ok (B : Bkm) (xs : List Stp) : rqN B xs xs.length = rqC 0 xs (outsN B xs) := by
  have z := rqC_at B xs xs 0 rfl
  rw [Nat.zero_add] at z
  exact z
def vx (a : Option Int) : Str → Option Int := fun n => if n = "x" then a else none
def runX : Option Int → List Rq → Option (Option Int)
  | a, [] => some a
  | a, r :: L => if r.k = "write" then runX (some r.v) L else if a.getD 0 = r.v then runX a L else none
theorem runX_ok : ∀ (L : List Rq) (a : Option Int), (∀ r ∈ L, r.n = "x") → runR (vx a) L = (runX a L).map vx
  | [], a, _ => rfl
  | r :: L, a, h => by
    have hn := h r (List.mem_cons_self ..)
    have ih := fun a => runX_ok L a fun q hq => h q (List.mem_cons_of_mem _ hq)
    unfold runR runX
    split
    · rw [show (fun n => if n = r.n then some r.v else vx a n) = vx (some r.v) from ?_]
      · exact ih _
      · funext n
        unfold vx
        rw [hn]
        split <;> rfl
    · have e : vx a r.n = a := by unfold vx; rw [hn, if_pos rfl]
      rw [e]
      split
      · exact ih _
      · rfl
def runLX (c : Int → Bool) (rq : Int → List Rq) : Option Int → List Int → Option (Option Int)
  | a, [] => some a
  | a, s :: L => if c s = true then (match runX a (rq s) with | some a' => runLX c rq a' L | none => none) else runLX c rq a L
theorem runLX_ok {c : Int → Bool} {rq : Int → List Rq} (h : ∀ s, ∀ r ∈ rq s, r.n = "x") : ∀ (L : List Int) (a : Option Int), runL c rq (vx a) L = (runLX c rq a L).map vx
  | [], a => rfl
  | s :: L, a => by
    have ih := runLX_ok (c := c) h L
    unfold runL runLX
    split
    · rw [runX_ok _ _ (h s)]
      cases runX a (rq s) with
      | none => rfl
      | some a' => exact ih a'
    · exact ih a
def serC (U : List Int) (xs : List Stp) (os : List Out) (c : CS) : Option Bool :=
  if (c.it.all (fun p => decide (p.1 = "x")) && (rqC 0 xs os).all fun p => decide (p.2.n = "x")) = true then
    match ascC U ((rqC 0 xs os).map (·.1)) with
    | none => none
    | some L => some (match runLX (fun s => decide (gt c.ov s = some true)) (ofT (rqC 0 xs os)) none L with | some a => decide (a.getD 0 = (lastV (c.item "x")).2) | none => false)
  else none
theorem gt_none {α β : Type} [DecidableEq α] {a : α} : ∀ {l : List (α × β)}, (∀ p ∈ l, p.1 ≠ a) → gt l a = none
  | [], _ => rfl
  | (k, v) :: r, h => by
    rw [gt_cons, if_neg (h (k, v) (List.mem_cons_self ..))]
    exact gt_none fun p hp => h p (List.mem_cons_of_mem _ hp)
theorem serC_ok {B : Bkm} {U : List Int} {xs : List Stp} {c : CS} {b : Bool} (hc : stN B xs xs.length = c.S) (h : serC U xs (outsN B xs) c = some b) : b = true ↔ SerP B xs xs.length := by
  unfold serC at h
  split at h
  · rename_i e
    rw [Bool.and_eq_true, List.all_eq_true, List.all_eq_true] at e
    obtain ⟨e1, e2⟩ := e
    split at h
    · cases h
    · rename_i L hL
      have hL := ascC_ok hL
      unfold SerP
      rw [rqC_ok, hL, hc]
      have ev : v00 = vx none := by funext n; unfold vx; split <;> rfl
      have hx : ∀ s, ∀ r ∈ ofT (rqC 0 xs (outsN B xs)) s, r.n = "x" := fun s r hr => by
        unfold ofT at hr
        obtain ⟨p, hp, rfl⟩ := List.mem_map.mp hr
        exact of_decide_eq_true (e2 p (List.mem_filter.mp hp).1)
      have ec : comC c.S = fun s => decide (gt c.ov s = some true) := rfl
      rw [ev, ec, runLX_ok hx]
      have h := (Option.some.inj h).symm
      rw [h]
      cases runLX (fun s => decide (gt c.ov s = some true)) (ofT (rqC 0 xs (outsN B xs))) none L with
      | none => exact ⟨fun z => (by cases z), fun ⟨v, z, _⟩ => (by cases z)⟩
      | some a =>
        constructor
        · intro z
          refine ⟨vx a, rfl, fun nm => ?_⟩
          have z := of_decide_eq_true z
          by_cases cn : nm = "x"
          · rw [cn]
            show (vx a "x").getD 0 = (lastV (c.item "x")).2
            rw [← z]; unfold vx; rw [if_pos rfl]
          · have : (c.S.it nm) = it0 := by
              show (gt c.it nm).getD it0 = it0
              rw [gt_none fun p hp q => cn (by rw [← q]; exact of_decide_eq_true (e1 p hp))]
              rfl
            rw [this]
            unfold vx
            rw [if_neg cn]
            rfl
        · rintro ⟨v, z, hv⟩
          cases z
          have z := hv "x"
          have e3 : vx a "x" = a := by unfold vx; rw [if_pos rfl]
          rw [e3] at z
          exact decide_eq_true z
  · cases h
/-- whether the last step is a fault -/
def badC (U : List Int) (xs : List Stp) (os : List Out) (c : CS) : Option Bool := match os.getLast? with
  | some o => if o.word = "commit" then (serC U xs os c).map (!·) else some false
  | none => none
theorem outsN_last {B : Bkm} {xs : List Stp} (h : xs ≠ []) : (outsN B xs).getLast? = some (outN B xs (xs.length - 1)) := by
  have hl : 0 < xs.length := List.length_pos_iff.mpr h
  rw [List.getLast?_eq_getElem?]
  have : (outsN B xs).length = xs.length := by unfold outsN; rw [List.length_map, List.length_range']
  rw [this]
  exact outsN_at (by omega)
theorem badC_ok {B : Bkm} {U : List Int} {xs : List Stp} {c : CS} {b : Bool} (hx : xs ≠ []) (hc : stN B xs xs.length = c.S) (h : badC U xs (outsN B xs) c = some b) : b = true ↔ BadAt B xs (xs.length - 1) := by
  have hl : 0 < xs.length := List.length_pos_iff.mpr hx
  unfold badC at h
  rw [outsN_last hx] at h
  dsimp only at h
  unfold BadAt
  rw [Nat.sub_add_cancel hl]
  split at h
  · rename_i e
    cases z : serC U xs (outsN B xs) c with
    | none => rw [z] at h; cases h
    | some b' =>
      rw [z] at h
      cases h
      have := serC_ok hc z
      rw [← this]
      cases b' <;> simp [e]
  · rename_i e
    cases h
    exact ⟨fun z => (by cases z), fun z => absurd z.1 e⟩
/-! a beginning of a run -/
theorem pre_at {B : Bkm} {xs : List Stp} {n : Nat} : ∀ i, i ≤ n → stN B (xs.take n) i = stN B xs i ∧ rqN B (xs.take n) i = rqN B xs i ∧ ∀ j, j < i → outN B (xs.take n) j = outN B xs j
  | 0, _ => ⟨rfl, rfl, fun j h => by omega⟩
  | i + 1, h => by
    obtain ⟨a, b, c⟩ := pre_at (B := B) (xs := xs) (n := n) i (by omega)
    have e : (xs.take n)[i]? = xs[i]? := List.getElem?_take_of_lt (by omega)
    have eo : outN B (xs.take n) i = outN B xs i := by
      unfold outN
      rw [e, a]
    refine ⟨?_, ?_, fun j hj => ?_⟩
    · show (match (xs.take n)[i]? with | some x => (takeM B (stN B (xs.take n) i) x (1 + (i : Nat))).1 | none => stN B (xs.take n) i) = (match xs[i]? with | some x => (takeM B (stN B xs i) x (1 + (i : Nat))).1 | none => stN B xs i)
      rw [e, a]
    · show rqN B (xs.take n) i ++ (match (xs.take n)[i]? with | some x => rqOf i x (outN B (xs.take n) i) | none => []) = rqN B xs i ++ (match xs[i]? with | some x => rqOf i x (outN B xs i) | none => [])
      rw [e, b, eo]
    · rcases Nat.lt_or_eq_of_le (Nat.le_of_lt_succ hj) with q | q
      · exact c j q
      · rw [q]; exact eo
theorem pre_bad {B : Bkm} {xs : List Stp} {n i : Nat} (h : i < n) : BadAt B (xs.take n) i ↔ BadAt B xs i := by
  obtain ⟨a, b, _⟩ := pre_at (B := B) (xs := xs) (n := n) (i + 1) h
  obtain ⟨_, _, c⟩ := pre_at (B := B) (xs := xs) (n := n) (i + 1) h
  unfold BadAt SerP
  rw [a, b, c i (by omega)]
end
end K27

/-! A quicker machine: entries, answers, places and words as small types; ends and keep only asked for where they matter. -/
namespace MIR
open PySem L2 CM BK
inductive An where
  | last | old | opn | wait | wound | abort | skip | put
  deriving DecidableEq
def An.s : An → Str
  | .last => "last" | .old => "old" | .opn => "open" | .wait => "wait" | .wound => "wound" | .abort => "abort" | .skip => "skip" | .put => "put"
inductive Pl where
  | free | late | own | under | below | above
  deriving DecidableEq
def Pl.s : Pl → Str
  | .free => "free" | .late => "late" | .own => "own" | .under => "under" | .below => "below" | .above => "above"
inductive En where
  | rl | ru | rb | ra | wl | wu | wb | wa | pf | po | pl | pu | pb | pa
  deriving DecidableEq
def En.s : En → Str
  | .rl => "read late" | .ru => "read under" | .rb => "read below" | .ra => "read above" | .wl => "write late" | .wu => "write under" | .wb => "write below" | .wa => "write above"
  | .pf => "write free passed" | .po => "write own passed" | .pl => "write late passed" | .pu => "write under passed" | .pb => "write below passed" | .pa => "write above passed"
inductive Wo where
  | read | put | skip | commit | wait | wound | abort | void
  deriving DecidableEq
def Wo.s : Wo → Str
  | .read => "read" | .put => "put" | .skip => "skip" | .commit => "commit" | .wait => "wait" | .wound => "wound" | .abort => "abort" | .void => "void"
def kdS : Bool → Str
  | true => "write"
  | false => "read"
def chsA : En → List An
  | .rl => [.last, .old, .abort]
  | .ru => [.last, .old, .opn, .wait, .abort]
  | .rb => [.last, .opn, .wait, .abort]
  | .ra => [.last, .opn, .wait, .abort]
  | .pf => [.put, .abort]
  | .po => [.put, .abort]
  | .wl => [.skip, .abort]
  | .pl => [.skip, .abort]
  | _ => [.skip, .wait, .wound, .abort]
theorem chsA_ok (e : En) : chs e.s = (chsA e).map An.s := by cases e <;> decide +kernel
theorem en_mem (e : En) : e.s ∈ ENT := by cases e <;> decide +kernel
theorem an_inj {a b : An} : a.s = b.s ↔ a = b := by cases a <;> cases b <;> decide +kernel
theorem wo_inj {a b : Wo} : a.s = b.s ↔ a = b := by cases a <;> cases b <;> decide +kernel
theorem en_inj {a b : En} : a.s = b.s ↔ a = b := by cases a <;> cases b <;> decide +kernel
theorem pl_inj {a b : Pl} : a.s = b.s ↔ a = b := by cases a <;> cases b <;> decide +kernel
def enOf : Bool → Pl → Bool → Option En
  | true, .free, true => some .pf
  | true, .own, true => some .po
  | true, .late, true => some .pl
  | true, .under, true => some .pu
  | true, .below, true => some .pb
  | true, .above, true => some .pa
  | true, .late, false => some .wl
  | true, .under, false => some .wu
  | true, .below, false => some .wb
  | true, .above, false => some .wa
  | false, .late, _ => some .rl
  | false, .under, _ => some .ru
  | false, .below, _ => some .rb
  | false, .above, _ => some .ra
  | _, _, _ => none
theorem enOf_ok (w : Bool) (p : Pl) (b : Bool) : metM (kdS w) p.s b = (enOf w p b).map En.s := by cases w <;> cases p <;> cases b <;> decide +kernel
def placeD (s w : Int) : Option Int → Pl
  | none => if w < s then .free else .late
  | some h => if h = s then .own else if s < w then .under else if s < h then .below else .above
theorem placeD_ok (s w : Int) (h : Option Int) : placeM s w h = (placeD s w h).s := by
  cases h with
  | none => unfold placeM placeD; dsimp only; split <;> rfl
  | some h =>
    unfold placeM placeD
    dsimp only
    split
    · rfl
    · split
      · rfl
      · split <;> rfl
def fixD (w : Bool) (p : Pl) : An := if w = true then .put else if p = .free then .last else .opn
theorem fixD_ok (w : Bool) (p : Pl) : fixM (kdS w) p.s = (fixD w p).s := by cases w <;> cases p <;> decide +kernel
def bindD (p : Pl) (a : An) : Bool := if a = .opn then !decide (p = .own) else decide (a = .skip) && (decide (p = .below) || decide (p = .above))
theorem bindD_ok (en : Str) (p : Pl) (a : An) : bindM en p.s a.s = (decide (en = "after") && bindD p a) := by
  have e : ∀ x y : Bool, x = y → (decide (en = "after") && x) = (decide (en = "after") && y) := fun x y h => by rw [h]
  unfold bindM
  refine e _ _ ?_
  cases p <;> cases a <;> decide +kernel
def valD (i : It) (s : Int) (a : An) : OV := if a = .opn then (match i.opn with | some (_, v) => .int v | none => .non) else if a = .old then .int ((oldM i s).getLastD 0) else .int (lastV i).2
theorem valD_ok (i : It) (s : Int) (a : An) : valM i s a.s = valD i s a := by
  unfold valM valD
  have e1 : (a.s = "open") = (a = .opn) := propext (an_inj (b := .opn))
  have e2 : (a.s = "old") = (a = .old) := propext (an_inj (b := .old))
  simp only [e1, e2]
  all_goals (rcases i with ⟨k, o, r⟩; cases o <;> rfl)
structure DOut where
  w : Wo
  met : List En
  val : OV
  fl : List Int
def DOut.O (o : DOut) : Out := ⟨o.w.s, o.met.map En.s, o.val, o.fl⟩
structure DS where
  x : It
  y : It
  ov : List (Int × Bool)
  bd : List (Int × List Int)
def nmS : Bool → Str
  | false => "x"
  | true => "y"
def DS.it (c : DS) : Bool → It
  | false => c.x
  | true => c.y
def DS.S (c : DS) : S := ⟨fun n => if n = "x" then c.x else if n = "y" then c.y else it0, fun t => gt c.ov t, fun t => (gt c.bd t).getD []⟩
def d0 : DS := ⟨it0, it0, [], []⟩
theorem d0_S : d0.S = s0 := by
  unfold DS.S s0 d0
  congr 1
  funext n
  show (if n = "x" then it0 else if n = "y" then it0 else it0) = it0
  split
  · rfl
  · split <;> rfl
theorem DS.it_ok (c : DS) (b : Bool) : c.S.it (nmS b) = c.it b := by
  cases b with
  | false =>
    show (if ("x" : Str) = "x" then c.x else if ("x" : Str) = "y" then c.y else it0) = c.x
    exact if_pos rfl
  | true =>
    show (if ("y" : Str) = "x" then c.x else if ("y" : Str) = "y" then c.y else it0) = c.y
    rw [if_neg (show ¬ ("y" : Str) = "x" by decide +kernel), if_pos rfl]
theorem fal_cong {σ σ' : S} (h1 : σ.ov = σ'.ov) (h2 : σ.bd = σ'.bd) (s : Int) : fal σ s = fal σ' s := by
  have r : ∀ {σ σ' : S}, σ.ov = σ'.ov → σ.bd = σ'.bd → ∀ t, Reach σ s t → Reach σ' s t := fun {σ σ'} h1 h2 t h => by
    induction h with
    | refl => exact .refl
    | step _ m o ih => exact .step ih (by rw [← h2]; exact m) (by rw [← h1]; exact o)
  have e : IsF σ s = IsF σ' s := by
    funext L
    exact propext ⟨fun h => ⟨h.1, fun t => (h.2 t).trans ⟨r h1 h2 t, r h1.symm h2.symm t⟩⟩, fun h => ⟨h.1, fun t => (h.2 t).trans ⟨r h1.symm h2.symm t, r h1 h2 t⟩⟩⟩
  by_cases h : ∃ L, IsF σ' s L
  · obtain ⟨L, hL⟩ := h
    rw [fal_eq hL]
    exact fal_eq (by rw [e]; exact hL)
  · have h' : ¬ ∃ L, IsF σ s L := by rw [e]; exact h
    unfold fal
    rw [dif_neg h, dif_neg h']
def falD (U : List Int) (c : DS) (s : Int) : Option (List Int) := falC U ⟨[], c.ov, c.bd⟩ s
theorem falD_ok {U : List Int} {c : DS} {s : Int} {M : List Int} (h : falD U c s = some M) : fal c.S s = M := by
  rw [← falC_ok h]
  exact fal_cong (σ := c.S) (σ' := (⟨[], c.ov, c.bd⟩ : CS).S) rfl rfl s
def fallD (c : DS) (L : List Int) : DS := ⟨relI L c.x, relI L c.y, L.map (fun t => (t, false)) ++ c.ov, c.bd⟩
theorem fallD_ok (c : DS) (L : List Int) : (fallD c L).S = fallS c.S L := by
  unfold fallD DS.S fallS
  congr 1
  · funext n
    show (if n = "x" then relI L c.x else if n = "y" then relI L c.y else it0) = relI L (if n = "x" then c.x else if n = "y" then c.y else it0)
    split
    · rfl
    · split <;> rfl
  · funext t
    exact gt_falls L c.ov t
def commD (c : DS) (s : Int) (k : Nat) : DS := ⟨setI s k c.x, setI s k c.y, (s, true) :: c.ov, c.bd⟩
theorem commD_ok (c : DS) (s : Int) (k : Nat) : (commD c s k).S = commS c.S s k := by
  unfold commD DS.S commS
  congr 1
  · funext n
    show (if n = "x" then setI s k c.x else if n = "y" then setI s k c.y else it0) = setI s k (if n = "x" then c.x else if n = "y" then c.y else it0)
    split
    · rfl
    · split <;> rfl
  · funext t
    show (if s = t then some true else gt c.ov t) = if t = s then some true else gt c.ov t
    by_cases e : s = t
    · rw [if_pos e, if_pos e.symm]
    · rw [if_neg e, if_neg fun q => e q.symm]
def bondD (c : DS) (s h : Int) : DS := if h ∈ (gt c.bd s).getD [] then c else ⟨c.x, c.y, c.ov, (s, (gt c.bd s).getD [] ++ [h]) :: c.bd⟩
theorem bondD_ok (c : DS) (s h : Int) : (bondD c s h).S = bondS c.S s h := by
  unfold bondD bondS
  show (if h ∈ (gt c.bd s).getD [] then c else _).S = if h ∈ (gt c.bd s).getD [] then c.S else _
  split
  · rfl
  · unfold DS.S
    congr 1
    funext t
    show (if s = t then some ((gt c.bd s).getD [] ++ [h]) else gt c.bd t).getD [] = if t = s then (gt c.bd s).getD [] ++ [h] else (gt c.bd t).getD []
    by_cases e : s = t
    · rw [if_pos e, if_pos e.symm]; rfl
    · rw [if_neg e, if_neg fun q => e q.symm]
theorem bondD_it (c : DS) (s h : Int) (b : Bool) : (bondD c s h).it b = c.it b := by
  unfold bondD
  split
  · rfl
  · cases b <;> rfl
def itD (c : DS) (b : Bool) (i : It) : DS := match b with
  | false => ⟨i, c.y, c.ov, c.bd⟩
  | true => ⟨c.x, i, c.ov, c.bd⟩
theorem itD_ok (c : DS) (b : Bool) (i : It) : (itD c b i).S = itS c.S (nmS b) i := by
  have yx : ¬ ("y" : Str) = "x" := by decide +kernel
  cases b with
  | false =>
    unfold itD itS DS.S
    congr 1
    funext m
    show (if m = "x" then i else if m = "y" then c.y else it0) = if m = "x" then i else if m = "x" then c.x else if m = "y" then c.y else it0
    split <;> rfl
  | true =>
    unfold itD itS DS.S
    congr 1
    funext m
    show (if m = "x" then c.x else if m = "y" then i else it0) = if m = "y" then i else if m = "x" then c.x else if m = "y" then c.y else it0
    by_cases e : m = "x"
    · rw [if_pos e, if_neg (by rw [e]; exact fun q => yx q.symm), if_pos e]
    · rw [if_neg e, if_neg e]
      split <;> rfl
def readD (c : DS) (b : Bool) (s : Int) : DS := if s ≤ (c.it b).rd then c else itD c b { c.it b with rd := s }
theorem readD_ok (c : DS) (b : Bool) (s : Int) : (readD c b s).S = readS c.S (nmS b) s := by
  unfold readD readS
  rw [DS.it_ok]
  split
  · rfl
  · exact itD_ok c b _
/-! what is known of a book -/
inductive Lo where
  | lo (m : Nat)
  | eq (k : Nat)
structure DT where
  tb : List (En × An)
  en : Option Bool
  kp : Lo
def enS : Bool → Str
  | false => "now"
  | true => "after"
structure DT.Ok (t : DT) (B : Bkm) : Prop where
  tb : ∀ e a, gt t.tb e = some a → B.f e.s = a.s
  en : ∀ b, t.en = some b → B.ends = enS b
  kp : match t.kp with | .lo m => m ≤ B.keep | .eq k => B.keep = k
inductive RD (α : Type) where
  | ok (a : α)
  | ent (e : En)
  | ends
  | keep
  | bad
def RD.bind {α β : Type} (r : RD α) (f : α → RD β) : RD β := match r with
  | .ok a => f a
  | .ent e => .ent e
  | .ends => .ends
  | .keep => .keep
  | .bad => .bad
def RD.of {α : Type} (o : Option α) : RD α := match o with
  | some a => .ok a
  | none => .bad
theorem RD.bind_ok {α β : Type} {r : RD α} {f : α → RD β} {b : β} (h : r.bind f = .ok b) : ∃ a, r = .ok a ∧ f a = .ok b := by
  cases r with
  | ok a => exact ⟨a, rfl, h⟩
  | ent e => cases h
  | ends => cases h
  | keep => cases h
  | bad => cases h
theorem RD.of_ok {α : Type} {o : Option α} {a : α} (h : RD.of o = .ok a) : o = some a := by
  cases o with
  | none => cases h
  | some b => cases h; rfl
def ansD (t : DT) (w : Bool) (p : Pl) (e : Option En) : RD An := match e with
  | none => .ok (fixD w p)
  | some e => match gt t.tb e with
    | some a => .ok a
    | none => .ent e
def metD : Option En → List En
  | none => []
  | some e => [e]
def bindR (t : DT) (c : DS) (s h : Int) (p : Pl) (a : An) : RD DS := if bindD p a = true then (match t.en with | none => .ends | some true => .ok (bondD c s h) | some false => .ok c) else .ok c
def askD (t : DT) (U : List Int) (c : DS) (w : Bool) (s : Int) (b : Bool) (v : Int) : RD (DS × DOut) :=
  let i := c.it b
  let p := placeD s (lastV i).1 (hOf i)
  let e := enOf w p (decide (i.rd > s))
  (ansD t w p e).bind fun a =>
  if a = .wait then .ok (c, ⟨.wait, metD e, .tup [hInt i], []⟩)
  else if a = .wound then (RD.of (falD U c (hInt i))).bind fun L => .ok (fallD c L, ⟨.wound, metD e, .non, L⟩)
  else if a = .abort ∨ (a = .old ∧ oldM i s = []) then (RD.of (falD U c s)).bind fun L => .ok (fallD c L, ⟨.abort, metD e, .non, L⟩)
  else (bindR t c s (hInt i) p a).bind fun c' =>
    if w = false then .ok (readD c' b s, ⟨.read, metD e, valD i s a, []⟩)
    else if a = .skip then .ok (c', ⟨.skip, metD e, .non, []⟩)
    else .ok (itD c' b { i with opn := some (s, v) }, ⟨.put, metD e, .non, []⟩)
theorem metD_ok (w : Bool) (p : Pl) (q : Bool) : metC (metM (kdS w) p.s q) = (metD (enOf w p q)).map En.s := by
  rw [enOf_ok]
  cases enOf w p q <;> rfl
theorem ansD_ok {t : DT} {B : Bkm} {w : Bool} {p : Pl} {q : Bool} {a : An} (A : t.Ok B) (h : ansD t w p (enOf w p q) = .ok a) : ansQ B (kdS w) p.s (metM (kdS w) p.s q) = a.s := by
  rw [enOf_ok]
  unfold ansD at h
  cases e : enOf w p q with
  | none => rw [e] at h; cases h; exact fixD_ok w p
  | some e' =>
    rw [e] at h
    dsimp only at h
    split at h
    · rename_i a' e2
      cases h
      exact A.tb _ _ e2
    · cases h
theorem bindR_ok {t : DT} {B : Bkm} {c c' : DS} {s h : Int} {p : Pl} {a : An} (A : t.Ok B) (hr : bindR t c s h p a = .ok c') : (if bindM B.ends p.s a.s = true then bondS c.S s h else c.S) = c'.S ∧ ∀ b, c'.it b = c.it b := by
  unfold bindR at hr
  rw [bindD_ok]
  split at hr
  · rename_i e
    split at hr
    · cases hr
    · rename_i q
      cases hr
      have z := A.en _ q
      rw [z, e]
      exact ⟨(if_pos (by decide +kernel)).trans (bondD_ok _ _ _).symm, fun b => bondD_it _ _ _ _⟩
    · rename_i q
      cases hr
      have z := A.en _ q
      rw [z, e]
      exact ⟨if_neg (by decide +kernel), fun _ => rfl⟩
  · rename_i e
    cases hr
    have e' : bindD p a = false := by cases z : bindD p a with | false => rfl | true => exact absurd z e
    rw [e', Bool.and_false]
    exact ⟨if_neg Bool.false_ne_true, fun _ => rfl⟩
theorem askD_ok {t : DT} {B : Bkm} {U : List Int} {c c' : DS} {w : Bool} {s : Int} {b : Bool} {v : Int} {o : DOut} (A : t.Ok B) (h : askD t U c w s b v = .ok (c', o)) : askM B c.S (kdS w) s (nmS b) v = (c'.S, o.O) := by
  unfold askD at h
  dsimp only at h
  obtain ⟨a, h1, h2⟩ := RD.bind_ok h
  clear h
  rw [askM_Q, DS.it_ok, placeD_ok, ansD_ok A h1, metD_ok]
  unfold askQ
  dsimp only
  rw [DS.it_ok]
  generalize hp : placeD s (lastV (c.it b)).1 (hOf (c.it b)) = p at h1 h2 ⊢
  generalize enOf w p (decide ((c.it b).rd > s)) = e at h1 h2 ⊢
  have ew : (a.s = "wait") = (a = .wait) := propext (an_inj (b := .wait))
  have eo : (a.s = "wound") = (a = .wound) := propext (an_inj (b := .wound))
  have ea : (a.s = "abort") = (a = .abort) := propext (an_inj (b := .abort))
  have el : (a.s = "old") = (a = .old) := propext (an_inj (b := .old))
  have es : (a.s = "skip") = (a = .skip) := propext (an_inj (b := .skip))
  simp only [ew, eo, ea, el, es]
  split at h2
  · cases h2; rw [if_pos (by assumption)]; rfl
  · rename_i n1
    rw [if_neg n1]
    split at h2
    · rename_i e2
      obtain ⟨L, z1, z2⟩ := RD.bind_ok h2
      cases z2
      rw [if_pos e2, falD_ok (RD.of_ok z1), fallD_ok]; rfl
    · rename_i n2
      rw [if_neg n2]
      split at h2
      · rename_i e3
        obtain ⟨L, z1, z2⟩ := RD.bind_ok h2
        cases z2
        rw [if_pos e3, falD_ok (RD.of_ok z1), fallD_ok]; rfl
      · rename_i n3
        rw [if_neg n3]
        obtain ⟨c1, z1, z2⟩ := RD.bind_ok h2
        obtain ⟨b1, b2⟩ := bindR_ok A z1
        rw [b1]
        cases w with
        | false =>
          rw [if_pos rfl] at z2
          cases z2
          rw [if_pos (show kdS false = "read" from rfl), readD_ok, valD_ok]; rfl
        | true =>
          rw [if_neg (by decide)] at z2
          rw [if_neg (show ¬ kdS true = "read" by decide +kernel)]
          split at z2
          · cases z2; rw [if_pos (by assumption)]; rfl
          · rename_i n5
            rw [if_neg n5]
            cases z2
            rw [itD_ok]; rfl
def reqD (t : DT) (U : List Int) (c : DS) (w : Bool) (s : Int) (b : Bool) (v : Int) : RD (DS × DOut) :=
  (askD t U c w s b v).bind fun r =>
  if r.2.w ≠ .wound then .ok r
  else if s ∈ r.2.fl then .ok (r.1, ⟨.abort, r.2.met, .non, r.2.fl⟩)
  else (askD t U r.1 w s b v).bind fun q => (RD.of (ascC U (r.2.fl ++ q.2.fl))).bind fun L => .ok (q.1, ⟨q.2.w, r.2.met ++ q.2.met, q.2.val, L⟩)
theorem reqD_ok {t : DT} {B : Bkm} {U : List Int} {c c' : DS} {w : Bool} {s : Int} {b : Bool} {v : Int} {o : DOut} (A : t.Ok B) (h : reqD t U c w s b v = .ok (c', o)) : reqM B c.S (kdS w) s (nmS b) v = (c'.S, o.O) := by
  unfold reqD at h
  obtain ⟨⟨c1, o1⟩, h1, h2⟩ := RD.bind_ok h
  have e1 := askD_ok A h1
  unfold reqM
  dsimp only
  rw [e1]
  have ew : (o1.O.word ≠ "wound") ↔ (o1.w ≠ .wound) := not_congr (wo_inj (b := .wound))
  dsimp only at h2 ⊢
  split at h2
  · rename_i n1
    cases h2; rw [if_pos (ew.mpr n1)]
  · rename_i n1
    rw [if_neg (fun z => n1 (ew.mp z))]
    split at h2
    · cases h2
      rename_i m
      rw [if_pos (show s ∈ o1.O.fallen from m)]; rfl
    · rename_i n2
      rw [if_neg (show ¬ s ∈ o1.O.fallen from n2)]
      obtain ⟨⟨c2, o2⟩, h3, h4⟩ := RD.bind_ok h2
      rw [askD_ok A h3]
      obtain ⟨L, z1, z2⟩ := RD.bind_ok h4
      cases z2
      dsimp only
      rw [show asc (o1.O.fallen ++ o2.O.fallen) = L from ascC_ok (RD.of_ok z1)]
      unfold DOut.O
      rw [List.map_append]
inductive DX where
  | req (w : Bool) (s : Int) (b : Bool)
  | com (s : Int)
  | abo (s : Int)
def DX.X : DX → Stp
  | .req w s b => .req (kdS w) s (nmS b)
  | .com s => .com s
  | .abo s => .abo s
def DX.who : DX → Int
  | .req _ s _ => s
  | .com s => s
  | .abo s => s
theorem DX.who_ok (x : DX) : x.X.who = x.who := by cases x <;> rfl
/-- the versions that a commit of s would keep at most -/
def needK (c : DS) : Nat := max c.x.kept.length c.y.kept.length + 1
theorem setI_big {s : Int} {k k' : Nat} {i : It} (h : i.kept.length + 1 ≤ k) (h' : i.kept.length + 1 ≤ k') : setI s k i = setI s k' i := by
  unfold setI
  split
  · split
    · rw [lastN_all (by rw [List.length_append]; exact h), lastN_all (by rw [List.length_append]; exact h')]
    · rfl
  · rfl
def takeD (t : DT) (U : List Int) (c : DS) (x : DX) (v : Int) : RD (DS × DOut) :=
  if (gt c.ov x.who).isSome = true then .ok (c, ⟨.void, [], .non, []⟩)
  else match x with
    | .com s =>
      let W := ((gt c.bd s).getD []).filter fun u => (gt c.ov u).isNone
      if W ≠ [] then (RD.of (ascC U W)).bind fun L => .ok (c, ⟨.wait, [], .tup L, []⟩)
      else match t.kp with
        | .eq k => .ok (commD c s k, ⟨.commit, [], .non, []⟩)
        | .lo m => if needK c ≤ m then .ok (commD c s m, ⟨.commit, [], .non, []⟩) else .keep
    | .abo s => (RD.of (falD U c s)).bind fun L => .ok (fallD c L, ⟨.abort, [], .non, L⟩)
    | .req w s b => reqD t U c w s b v
theorem takeD_ok {t : DT} {B : Bkm} {U : List Int} {c c' : DS} {x : DX} {v : Int} {o : DOut} (A : t.Ok B) (h : takeD t U c x v = .ok (c', o)) : takeM B c.S x.X v = (c'.S, o.O) := by
  unfold takeD at h
  unfold takeM
  rw [DX.who_ok]
  show (if (gt c.ov x.who).isSome = true then _ else _) = _
  split at h
  · cases h; rw [if_pos (by assumption)]; rfl
  · rename_i n1
    rw [if_neg n1]
    cases x with
    | com s =>
      dsimp only [DX.X] at h ⊢
      have ew : waitsOf c.S s = ((gt c.bd s).getD []).filter fun u => (gt c.ov u).isNone := rfl
      rw [ew]
      split at h
      · rename_i n2
        obtain ⟨L, z1, z2⟩ := RD.bind_ok h
        cases z2
        rw [if_pos n2, ascC_ok (RD.of_ok z1)]; rfl
      · rename_i n2
        rw [if_neg n2]
        have kp := A.kp
        split at h
        · rename_i k ek
          rw [ek] at kp
          cases h
          have kp : B.keep = k := kp
          rw [kp, commD_ok]; rfl
        · rename_i m ek
          rw [ek] at kp
          have kp : m ≤ B.keep := kp
          split at h
          · rename_i hm
            cases h
            unfold needK at hm
            have : commD c s m = commD c s B.keep := by
              unfold commD
              rw [setI_big (i := c.x) (k := m) (k' := B.keep) (by omega) (by omega), setI_big (i := c.y) (k := m) (k' := B.keep) (by omega) (by omega)]
            rw [this, commD_ok]; rfl
          · cases h
    | abo s =>
      dsimp only [DX.X] at h ⊢
      obtain ⟨L, z1, z2⟩ := RD.bind_ok h
      cases z2
      rw [falD_ok (RD.of_ok z1), fallD_ok]; rfl
    | req w s b =>
      dsimp only [DX.X] at h ⊢
      exact reqD_ok A h
end MIR

/-! Every way that a run can go, with states in normal form. -/
namespace MIR
open PySem L2 CM BK
/-- a value passed on in normal form -/
structure Frc (β : Type) where
  run : {α : Type} → β → (β → α) → α
  ok : ∀ {α : Type} (b : β) (k : β → α), run b k = k b
def frcNs {α : Type} : List Nat → Nat → (Nat → α) → α
  | [], n, k => k n
  | j :: js, n, k => bif Nat.beq n j then k j else frcNs js n k
theorem frcNs_ok {α : Type} (n : Nat) (k : Nat → α) : ∀ js, frcNs js n k = k n
  | [] => rfl
  | j :: js => by
    show (bif Nat.beq n j then k j else frcNs js n k) = k n
    cases h : Nat.beq n j with
    | true => rw [Nat.eq_of_beq_eq_true h]; rfl
    | false => exact frcNs_ok n k js
def fNat : Frc Nat := ⟨fun n k => frcNs [0, 1, 2, 3, 4, 5, 6, 7, 8, 9, 10, 11, 12, 13, 14, 15, 16, 17, 18, 19, 20, 21, 22, 23, 24] n k, fun n k => frcNs_ok n k _⟩
def fInt : Frc Int := ⟨fun i k => match i with
  | .ofNat n => fNat.run n fun m => k (.ofNat m)
  | .negSucc n => k (.negSucc n), fun i k => by cases i with
  | ofNat n => exact fNat.ok n _
  | negSucc n => rfl⟩
def fBool : Frc Bool := ⟨fun b k => match b with | true => k true | false => k false, fun b k => by cases b <;> rfl⟩
def Frc.pair {β γ : Type} (f : Frc β) (g : Frc γ) : Frc (β × γ) := ⟨fun p k => match p with | (a, b) => f.run a fun a => g.run b fun b => k (a, b), fun p k => by
  obtain ⟨a, b⟩ := p
  show f.run a (fun a => g.run b fun b => k (a, b)) = _
  rw [f.ok, g.ok]⟩
def frcL {α β : Type} (f : Frc β) : List β → (List β → α) → α
  | [], k => k []
  | a :: r, k => f.run a fun a => frcL f r fun r => k (a :: r)
theorem frcL_ok {α β : Type} (f : Frc β) : ∀ (l : List β) (k : List β → α), frcL f l k = k l
  | [], k => rfl
  | a :: r, k => by
    show f.run a (fun a => frcL f r fun r => k (a :: r)) = _
    rw [f.ok, frcL_ok f r]
def Frc.list {β : Type} (f : Frc β) : Frc (List β) := ⟨fun l k => frcL f l k, fun l k => frcL_ok f l k⟩
def Frc.opt {β : Type} (f : Frc β) : Frc (Option β) := ⟨fun o k => match o with
  | none => k none
  | some a => f.run a fun a => k (some a), fun o k => by cases o with
  | none => rfl
  | some a => exact f.ok a _⟩
def fIt : Frc It := ⟨fun i k => (Frc.list (fInt.pair fInt)).run i.kept fun a => (Frc.opt (fInt.pair fInt)).run i.opn fun b => fInt.run i.rd fun c => k ⟨a, b, c⟩, fun i k => by
  rw [Frc.ok, Frc.ok, Frc.ok]⟩
def fDS : Frc DS := ⟨fun c k => fIt.run c.x fun x => fIt.run c.y fun y => (Frc.list (fInt.pair fBool)).run c.ov fun o => (Frc.list (fInt.pair fInt.list)).run c.bd fun b => k ⟨x, y, o, b⟩, fun c k => by
  rw [Frc.ok, Frc.ok, Frc.ok, Frc.ok]⟩
def fWo : Frc Wo := ⟨fun w k => match w with
  | .read => k .read | .put => k .put | .skip => k .skip | .commit => k .commit | .wait => k .wait | .wound => k .wound | .abort => k .abort | .void => k .void, fun w k => by cases w <;> rfl⟩
def fEn : Frc En := ⟨fun w k => match w with
  | .rl => k .rl | .ru => k .ru | .rb => k .rb | .ra => k .ra | .wl => k .wl | .wu => k .wu | .wb => k .wb | .wa => k .wa | .pf => k .pf | .po => k .po | .pl => k .pl | .pu => k .pu | .pb => k .pb | .pa => k .pa, fun w k => by cases w <;> rfl⟩
def fOV : Frc OV := ⟨fun o k => match o with
  | .non => k .non
  | .int v => fInt.run v fun v => k (.int v)
  | .tup l => fInt.list.run l fun l => k (.tup l), fun o k => by cases o with
  | non => rfl
  | int v => exact fInt.ok v _
  | tup l => exact (fInt.list).ok l _⟩
def fDO : Frc DOut := ⟨fun o k => fWo.run o.w fun a => fEn.list.run o.met fun b => fOV.run o.val fun c => fInt.list.run o.fl fun d => k ⟨a, b, c, d⟩, fun o k => by
  rw [Frc.ok, Frc.ok, Frc.ok, Frc.ok]⟩
def symD (U : List Int) (F : DT → List DOut → DS → Bool) : Nat → DT → DS → List DOut → Nat → List DX → Bool
  | 0, _, _, _, _, _ => false
  | _ + 1, t, c, os, _, [] => F t os c
  | n + 1, t, c, os, i, x :: xs => match takeD t U c x (1 + (i : Nat)) with
    | .ok r => fDS.run r.1 fun c' => fDO.run r.2 fun o => symD U F n t c' (os ++ [o]) (i + 1) xs
    | .ent e => (chsA e).all fun a => symD U F n ⟨(e, a) :: t.tb, t.en, t.kp⟩ c os i (x :: xs)
    | .ends => symD U F n ⟨t.tb, some false, t.kp⟩ c os i (x :: xs) && symD U F n ⟨t.tb, some true, t.kp⟩ c os i (x :: xs)
    | .keep => match t.kp with
      | .lo m => symD U F n ⟨t.tb, t.en, .eq m⟩ c os i (x :: xs) && symD U F n ⟨t.tb, t.en, .lo (m + 1)⟩ c os i (x :: xs)
      | .eq _ => false
    | .bad => false
theorem symD_ok {B : Bkm} {U : List Int} {F : DT → List DOut → DS → Bool} (hf : ∀ x ∈ ENT, B.f x ∈ chs x) (he : B.ends = "now" ∨ B.ends = "after") :
    ∀ (n : Nat) {t : DT} {c : DS} {os : List DOut} {i : Nat} {xs : List DX}, t.Ok B → symD U F n t c os i xs = true →
      ∃ t' c' os', t'.Ok B ∧ (runM B c.S i (xs.map DX.X)).1 = c'.S ∧ (runM B c.S i (xs.map DX.X)).2 = os'.map DOut.O ∧ F t' (os ++ os') c' = true
  | 0, _, _, _, _, _, _, h => by cases h
  | n + 1, t, c, os, i, [], A, h => ⟨t, c, [], A, rfl, rfl, by rw [List.append_nil]; exact h⟩
  | n + 1, t, c, os, i, x :: xs, A, h => by
    unfold symD at h
    split at h
    · rename_i r e
      rw [Frc.ok, Frc.ok] at h
      have e1 := takeD_ok (c' := r.1) (o := r.2) A e
      obtain ⟨t', c', os', a1, a2, a3, a4⟩ := symD_ok hf he n A h
      refine ⟨t', c', r.2 :: os', a1, ?_, ?_, by rw [List.append_assoc] at a4; exact a4⟩
      · show (runM B (takeM B c.S x.X (1 + (i : Nat))).1 (i + 1) (xs.map DX.X)).1 = _
        rw [e1]; exact a2
      · show (takeM B c.S x.X (1 + (i : Nat))).2 :: (runM B (takeM B c.S x.X (1 + (i : Nat))).1 (i + 1) (xs.map DX.X)).2 = _
        rw [e1, a3]; rfl
    · rename_i e _
      rw [List.all_eq_true] at h
      have hm := hf e.s (en_mem e)
      rw [chsA_ok] at hm
      obtain ⟨a, ha, hae⟩ := List.mem_map.mp hm
      have A' : DT.Ok ⟨(e, a) :: t.tb, t.en, t.kp⟩ B := ⟨fun e' a' z => by
        rw [gt_cons] at z
        split at z
        · rename_i w; cases z; rw [← w]; exact hae.symm
        · exact A.tb e' a' z, A.en, A.kp⟩
      exact symD_ok hf he n A' (h a ha)
    · rw [Bool.and_eq_true] at h
      rcases he with q | q
      · have A' : DT.Ok ⟨t.tb, some false, t.kp⟩ B := ⟨A.tb, fun b z => (by cases z; exact q), A.kp⟩
        exact symD_ok hf (.inl q) n A' h.1
      · have A' : DT.Ok ⟨t.tb, some true, t.kp⟩ B := ⟨A.tb, fun b z => (by cases z; exact q), A.kp⟩
        exact symD_ok hf (.inr q) n A' h.2
    · split at h
      · rename_i m hm
        rw [Bool.and_eq_true] at h
        have kp := A.kp
        rw [hm] at kp
        have kp : m ≤ B.keep := kp
        rcases Nat.eq_or_lt_of_le kp with q | q
        · have A' : DT.Ok ⟨t.tb, t.en, .eq m⟩ B := ⟨A.tb, A.en, q.symm⟩
          exact symD_ok hf he n A' h.1
        · have A' : DT.Ok ⟨t.tb, t.en, .lo (m + 1)⟩ B := ⟨A.tb, A.en, q⟩
          exact symD_ok hf he n A' h.2
      · cases h
    · cases h
def t0 : DT := ⟨[], none, .lo 1⟩
theorem t0_ok {B : Bkm} (h : 1 ≤ B.keep) : t0.Ok B := ⟨fun e a z => (by cases z), fun b z => (by cases z), h⟩
/-! the fault at the end of a run on x -/
def rqD : Nat → List DX → List DOut → List (Int × (Bool × Int))
  | i, .req w s _ :: xs, o :: os => (match o.w with
    | .read => [(s, (w, if w = true then 1 + (i : Nat) else match o.val with | .int z => z | _ => 0))]
    | .put => [(s, (w, if w = true then 1 + (i : Nat) else match o.val with | .int z => z | _ => 0))]
    | .skip => [(s, (w, if w = true then 1 + (i : Nat) else match o.val with | .int z => z | _ => 0))]
    | _ => []) ++ rqD (i + 1) xs os
  | i, _ :: xs, _ :: os => rqD (i + 1) xs os
  | _, _, _ => []
def runXD : Option Int → List (Bool × Int) → Option (Option Int)
  | a, [] => some a
  | _, (true, v) :: L => runXD (some v) L
  | a, (false, v) :: L => if a.getD 0 = v then runXD a L else none
def runLXD (c : Int → Bool) (rq : Int → List (Bool × Int)) : Option Int → List Int → Option (Option Int)
  | a, [] => some a
  | a, s :: L => if c s = true then (match runXD a (rq s) with | some a' => runLXD c rq a' L | none => none) else runLXD c rq a L
def ofD (L : List (Int × (Bool × Int))) (s : Int) : List (Bool × Int) := (L.filter fun p => decide (p.1 = s)).map (·.2)
def serD (U : List Int) (xs : List DX) (os : List DOut) (c : DS) : Option Bool :=
  if (lastV c.y).2 = 0 then
    (Frc.list (fInt.pair (fBool.pair fInt))).run (rqD 0 xs os) fun rq =>
    match ascC U (rq.map (·.1)) with
    | none => none
    | some L => some (match runLXD (fun s => decide (gt c.ov s = some true)) (ofD rq) none L with | some a => decide (a.getD 0 = (lastV c.x).2) | none => false)
  else none
def onX : DX → Bool
  | .req _ _ b => !b
  | _ => true
/-- whether the last step is a fault -/
def badD (U : List Int) (xs : List DX) (os : List DOut) (c : DS) : Option Bool := match os.getLast? with
  | some o => if o.w = .commit then (serD U xs os c).map (!·) else some false
  | none => none
end MIR

namespace K27
open PySem L2 SI CM BK OWN MIR StX TX TL
section
variable {w : World} {K : PySem.W.Frag} {mg : Str → Option Value} {base : Heap} (T : Txt w K mg)
def gR (p : Int × (Bool × Int)) : Int × Rq := (p.1, ⟨kdS p.2.1, "x", p.2.2⟩)
def gQ (p : Bool × Int) : Rq := ⟨kdS p.1, "x", p.2⟩
theorem kds_w {w : Bool} : (kdS w = "write") ↔ w = true := by cases w <;> decide +kernel
theorem rqD_ok : ∀ (xs : List DX) (os : List DOut) (i : Nat), xs.all onX = true → rqC i (xs.map DX.X) (os.map DOut.O) = (rqD i xs os).map gR
  | [], _, _, _ => rfl
  | _ :: _, [], _, _ => by unfold rqC rqD; rename_i x _ _ _; cases x <;> rfl
  | x :: xs, o :: os, i, h => by
    have h' : (onX x && xs.all onX) = true := h
    rw [Bool.and_eq_true] at h'
    have ih := rqD_ok xs os (i + 1) h'.2
    have e1 : rqC i ((x :: xs).map DX.X) ((o :: os).map DOut.O) = rqOf i x.X o.O ++ rqC (i + 1) (xs.map DX.X) (os.map DOut.O) := rfl
    rw [e1, ih]
    cases x with
    | com s => rfl
    | abo s => rfl
    | req w s b =>
      have hb : b = false := by have z := h'.1; cases b with | false => rfl | true => cases z
      subst hb
      have ev : (if kdS w = "write" then 1 + (i : Int) else match o.val with | .int z => z | _ => 0) = (if w = true then 1 + (i : Int) else match o.val with | .int z => z | _ => 0) := by
        cases w with
        | true => rw [if_pos (kds_w.mpr rfl), if_pos rfl]
        | false => rw [if_neg (fun z => by cases kds_w.mp z), if_neg (by decide)]
      have eq : rqOf i (DX.X (.req w s false)) o.O = if o.w.s ∈ GRW then [(s, ⟨kdS w, "x", if kdS w = "write" then 1 + (i : Int) else match o.val with | .int z => z | _ => 0⟩)] else [] := rfl
      rw [eq, ev]
      obtain ⟨ww, mm, vv, ff⟩ := o
      have one : ∀ q : Int, ([(s, ⟨kdS w, "x", q⟩)] : List (Int × Rq)) ++ (rqD (i + 1) xs os).map gR = ([(s, (w, q))] ++ rqD (i + 1) xs os).map gR := fun q => by rw [List.map_append]; rfl
      cases ww
      · rw [if_pos (show (Wo.read).s ∈ GRW by decide +kernel)]
        cases vv <;> exact one _
      · rw [if_pos (show (Wo.put).s ∈ GRW by decide +kernel)]
        cases vv <;> exact one _
      · rw [if_pos (show (Wo.skip).s ∈ GRW by decide +kernel)]
        cases vv <;> exact one _
      · rw [if_neg (show ¬ (Wo.commit).s ∈ GRW by decide +kernel)]; rfl
      · rw [if_neg (show ¬ (Wo.wait).s ∈ GRW by decide +kernel)]; rfl
      · rw [if_neg (show ¬ (Wo.wound).s ∈ GRW by decide +kernel)]; rfl
      · rw [if_neg (show ¬ (Wo.abort).s ∈ GRW by decide +kernel)]; rfl
      · rw [if_neg (show ¬ (Wo.void).s ∈ GRW by decide +kernel)]; rfl
theorem runXD_ok : ∀ (L : List (Bool × Int)) (a : Option Int), runX a (L.map gQ) = runXD a L
  | [], _ => rfl
  | (true, v) :: L, a => by
    show (if kdS true = "write" then runX (some v) (L.map gQ) else _) = runXD (some v) L
    rw [if_pos (kds_w.mpr rfl)]; exact runXD_ok L _
  | (false, v) :: L, a => by
    show (if kdS false = "write" then _ else if a.getD 0 = v then runX a (L.map gQ) else none) = if a.getD 0 = v then runXD a L else none
    rw [if_neg (fun z => by cases kds_w.mp z), runXD_ok L a]
theorem ofD_ok (rq : List (Int × (Bool × Int))) (s : Int) : ofT (rq.map gR) s = (ofD rq s).map gQ := by
  unfold ofT ofD
  rw [List.filter_map, List.map_map, List.map_map]
  rfl
theorem runLXD_ok (c : Int → Bool) (rq : List (Int × (Bool × Int))) : ∀ (L : List Int) (a : Option Int), runLX c (ofT (rq.map gR)) a L = runLXD c (ofD rq) a L
  | [], _ => rfl
  | s :: L, a => by
    unfold runLX runLXD
    rw [ofD_ok, runXD_ok]
    split
    · cases runXD a (ofD rq s) with
      | none => rfl
      | some a' => exact runLXD_ok c rq L a'
    · exact runLXD_ok c rq L a
theorem serD_ok {B : Bkm} {U : List Int} {xs : List DX} {os : List DOut} {c : DS} {b : Bool} (hx : xs.all onX = true) (hos : os.map DOut.O = outsN B (xs.map DX.X)) (hc : stN B (xs.map DX.X) xs.length = c.S) (h : serD U xs os c = some b) : b = true ↔ SerP B (xs.map DX.X) xs.length := by
  have hl : (xs.map DX.X).length = xs.length := List.length_map ..
  have hrq : rqN B (xs.map DX.X) xs.length = (rqD 0 xs os).map gR := by
    have z := rqC_ok B (xs.map DX.X)
    rw [hl, ← hos, rqD_ok xs os 0 hx] at z
    exact z
  unfold serD at h
  split at h
  · rename_i hy
    rw [Frc.ok] at h
    split at h
    · cases h
    · rename_i L hL
      have hL := ascC_ok hL
      unfold SerP
      have e1 : ((rqD 0 xs os).map gR).map (·.1) = (rqD 0 xs os).map (·.1) := by rw [List.map_map]; rfl
      rw [hrq, e1, hL, hc]
      have ev : v00 = vx none := by funext n; unfold vx; split <;> rfl
      have hxx : ∀ s, ∀ r ∈ ofT ((rqD 0 xs os).map gR) s, r.n = "x" := fun s r hr => by
        rw [ofD_ok] at hr
        obtain ⟨p, hp, rfl⟩ := List.mem_map.mp hr
        rfl
      have ec : comC c.S = fun s => decide (gt c.ov s = some true) := rfl
      rw [ev, ec, runLX_ok hxx, runLXD_ok]
      have h := (Option.some.inj h).symm
      rw [h]
      have ix : c.S.it "x" = c.x := DS.it_ok c false
      cases runLXD (fun s => decide (gt c.ov s = some true)) (ofD (rqD 0 xs os)) none L with
      | none => exact ⟨fun z => (by cases z), fun ⟨v, z, _⟩ => (by cases z)⟩
      | some a =>
        constructor
        · intro z
          refine ⟨vx a, rfl, fun nm => ?_⟩
          have z := of_decide_eq_true z
          by_cases cn : nm = "x"
          · rw [cn, ix, ← z]; unfold vx; rw [if_pos rfl]
          · have e2 : (lastV (c.S.it nm)).2 = 0 := by
              show (lastV (if nm = "x" then c.x else if nm = "y" then c.y else it0)).2 = 0
              rw [if_neg cn]
              split
              · exact hy
              · rfl
            rw [e2]
            unfold vx
            rw [if_neg cn]
            rfl
        · rintro ⟨v, z, hv⟩
          cases z
          have z := hv "x"
          rw [ix] at z
          have e3 : vx a "x" = a := by unfold vx; rw [if_pos rfl]
          rw [e3] at z
          exact decide_eq_true z
  · cases h
theorem badD_ok {B : Bkm} {U : List Int} {xs : List DX} {os : List DOut} {c : DS} {b : Bool} (hne : xs ≠ []) (hx : xs.all onX = true) (hos : os.map DOut.O = outsN B (xs.map DX.X)) (hc : stN B (xs.map DX.X) xs.length = c.S) (h : badD U xs os c = some b) : b = true ↔ BadAt B (xs.map DX.X) (xs.length - 1) := by
  have hl : 0 < xs.length := List.length_pos_iff.mpr hne
  have hlm : (xs.map DX.X).length = xs.length := List.length_map ..
  have hlast := outsN_last (B := B) (xs := xs.map DX.X) (fun z => hne (List.map_eq_nil_iff.mp z))
  rw [← hos, List.getLast?_map, hlm] at hlast
  unfold badD at h
  cases e : os.getLast? with
  | none => rw [e] at hlast; cases hlast
  | some o =>
    rw [e] at h hlast
    dsimp only at h
    have ho : o.O = outN B (xs.map DX.X) (xs.length - 1) := Option.some.inj hlast
    unfold BadAt
    rw [Nat.sub_add_cancel hl, ← ho]
    have ew : o.O.word = "commit" ↔ o.w = .commit := wo_inj (b := .commit)
    split at h
    · rename_i q
      cases z : serD U xs os c with
      | none => rw [z] at h; cases h
      | some b' =>
        rw [z] at h
        cases h
        have := serD_ok hx hos hc z
        rw [← this]
        cases b' <;> simp [ew.mpr q]
    · rename_i q
      cases h
      exact ⟨fun z => (by cases z), fun z => absurd (ew.mp z.1) q⟩
/-- the words of a run, for the quicker machine -/
def dK (p : Wd) : DX := match p.1 with
  | .rd => .req false (p.2 : Int) false
  | .wr => .req true (p.2 : Int) false
  | .cm => .com (p.2 : Int)
  | .ab => .abo (p.2 : Int)
abbrev dsK (L : List Wd) : List DX := L.map dK
theorem dsK_x (L : List Wd) : (dsK L).map DX.X = xsK L := by
  rw [List.map_map]
  refine List.map_congr_left fun p _ => ?_
  obtain ⟨k, n⟩ := p
  cases k <;> rfl
theorem dsK_on (L : List Wd) : (dsK L).all onX = true := by
  rw [List.all_map, List.all_eq_true]
  intro p _
  obtain ⟨k, n⟩ := p
  cases k <;> rfl
/-- at every setting and every table -/
abbrev symK (F : DT → List DOut → DS → Bool) (L : List Wd) : Bool := symD [1, 2, 3] F 90 t0 d0 [] 0 (dsK L)
theorem symK_at {B : Bkm} {F : DT → List DOut → DS → Bool} {L : List Wd} {t : DT} (hf : ∀ x ∈ ENT, B.f x ∈ chs x) (he : isEnds (.str B.ends)) (A : t.Ok B) (h : symD [1, 2, 3] F 90 t d0 [] 0 (dsK L) = true) :
    ∃ t' os c, t'.Ok B ∧ F t' os c = true ∧ os.map DOut.O = outsN B (xsK L) ∧ stN B (xsK L) L.length = c.S := by
  have he' : B.ends = "now" ∨ B.ends = "after" := he.imp (fun z => V.str.inj z) (fun z => V.str.inj z)
  obtain ⟨t', c', os', a1, a2, a3, a4⟩ := symD_ok hf he' 90 A h
  obtain ⟨r1, r2⟩ := run_out B (xsK L) (xsK L) 0 rfl
  have e0 : d0.S = stN B (xsK L) 0 := d0_S
  rw [e0, dsK_x] at a2 a3
  rw [r1] at a3
  rw [r2, Nat.zero_add, List.length_map] at a2
  exact ⟨t', os', c', a1, a4, a3.symm, a2⟩
/-- what the end of a run says of a fault -/
abbrev badL (L : List Wd) (os : List DOut) (c : DS) : Option Bool := badD [1, 2, 3] (dsK L) os c
theorem badL_ok {B : Bkm} {L : List Wd} {os : List DOut} {c : DS} {b : Bool} (hne : L ≠ []) (hos : os.map DOut.O = outsN B (xsK L)) (hc : stN B (xsK L) L.length = c.S) (h : badL L os c = some b) : b = true ↔ BadAt B (xsK L) (L.length - 1) := by
  have z := badD_ok (B := B) (fun q => hne (List.map_eq_nil_iff.mp q)) (dsK_on L) (by rw [dsK_x]; exact hos) (by rw [dsK_x, List.length_map]; exact hc) h
  rw [dsK_x, List.length_map] at z
  exact z
end
end K27

namespace K27
open PySem L2 SI CM BK OWN MIR StX TX TL
section
variable {w : World} {K : PySem.W.Frag} {mg : Str → Option Value} {base : Heap} (T : Txt w K mg)
instance : DecidableEq Kd := fun a b => by cases a <;> cases b <;> first | exact isTrue rfl | exact isFalse (fun h => by cases h)
def PRE : List (List Wd) := [[kw 2, kc 2], [kw 2, kc 2, kr 1, kc 3], [kw 2, kc 2, kw 3, kr 1, kc 3], [kw 2, kr 1, kc 3], [kw 1, kr 2, kc 3], [kw 2, kc 2, kw 1, kc 3], [kw 2, kc 2, kw 3, kw 1, kc 3], [kw 2, kw 1, kc 3], [kw 1, kw 2, kc 3], [kr 2, kw 1, kc 3], [kw 1, kr 2, kw 1, kc 3], [kr 2, kw 1, kw 1, kc 3], [kr 2, kw 2, kc 2], [kr 2, kw 2, kc 2, kw 1, kc 3], [kr 2, kw 2, kc 2, kw 3, kw 1, kc 3], [kr 2, kw 2, kw 1, kc 3], [kr 3, kw 1, kw 2, kc 3], [kw 2, kw 1, kr 1, kc 2]]
abbrev P17 : List Wd := [kw 1, kr 3, kw 2, kc 3]
abbrev Q17 : List Wd := [kw 1, kr 2, kc 2]
/-- at every setting and every table -/
def symB (F : Str → Kp → Tb → List Out → CS → Bool) (xs : List Stp) : Bool := ([("now" : Str), "after"] : List Str).all fun en => allQ.all fun q => sym en q [1, 2, 3] (F en q) 60 [] c0 [] 0 xs
theorem sym_at {B : Bkm} {F : Tb → List Out → CS → Bool} {xs : List Stp} {q : Kp} {p : Tb} (hf : ∀ x ∈ ENT, B.f x ∈ chs x) (hi : q.is B.keep) (A : Agr p B.f) (h : sym B.ends q [1, 2, 3] F 60 p c0 [] 0 xs = true) : ∃ p' c, Agr p' B.f ∧ F p' (outsN B xs) c = true ∧ stN B xs xs.length = c.S := by
  obtain ⟨p', c, a1, a2, a3⟩ := sym_ok hf hi 60 A h
  obtain ⟨r1, r2⟩ := run_out B xs xs 0 rfl
  have e0 : c0.S = stN B xs 0 := rfl
  rw [e0] at a2 a3
  rw [r1, List.nil_append] at a3
  rw [r2, Nat.zero_add] at a2
  exact ⟨p', c, a1, a3, a2⟩
theorem symB_ok {F : Str → Kp → Tb → List Out → CS → Bool} {xs : List Stp} (h : symB F xs = true) {B : Bkm} (hf : ∀ x ∈ ENT, B.f x ∈ chs x) (he : isEnds (.str B.ends)) (hk : 1 ≤ B.keep) : ∃ q p c, q.is B.keep ∧ Agr p B.f ∧ F B.ends q p (outsN B xs) c = true ∧ stN B xs xs.length = c.S := by
  obtain ⟨q, hq, hi⟩ := allQ_is hk
  unfold symB at h
  rw [List.all_eq_true] at h
  have he' : B.ends ∈ ([("now" : Str), "after"] : List Str) := by
    rcases he with z | z
    · rw [V.str.inj z]; simp
    · rw [V.str.inj z]; simp
  have h1 := h B.ends he'
  rw [List.all_eq_true] at h1
  obtain ⟨p, c, a1, a2, a3⟩ := sym_at (p := []) hf hi (fun e a z => by cases z) (h1 q hq)
  exact ⟨q, p, c, hi, a1, a2, a3⟩
abbrev bad3 (L : List Wd) (os : List Out) (c : CS) : Option Bool := badC [1, 2, 3] (xsK L) os c
theorem p17_sym : symB (fun en q p os c => decide (bad3 P17 os c = some false) || sym en q [1, 2, 3] (fun _ os' c' => decide (bad3 Q17 os' c' = some true)) 60 p c0 [] 0 (xsK Q17)) (xsK P17) = true := by decide +kernel
theorem pre_sym : PRE.all (fun P => symA (fun _ os c => decide (badC [1, 2, 3] (xsK P) os c = some false)) (xsK P)) = true := by decide +kernel
theorem pre_in : FALL.all (fun L => (List.range (L.length - 1)).all fun i => match L[i]? with
    | some w => !decide (w.1 = .cm) || (decide (L.take (i + 1) ∈ FALL) || (decide (L.take (i + 1) ∈ PRE) || decide (L.take (i + 1) = P17)))
    | none => true) = true := by decide +kernel
theorem word_com {B : Bkm} {σ : MIR.S} {x : Stp} {v : Int} (h : (takeM B σ x v).2.word = "commit") : ∃ s, x = .com s := by
  cases x with
  | com s => exact ⟨s, rfl⟩
  | abo s =>
    exfalso
    unfold takeM at h
    split at h
    · exact absurd (show ("void" : Str) = "commit" from h) (by decide +kernel)
    · exact absurd (show ("abort" : Str) = "commit" from h) (by decide +kernel)
  | req k s n =>
    exfalso
    have ask : ∀ σ, (askM B σ k s n v).2.word ≠ "commit" := fun σ => by
      rw [askM_Q]
      unfold askQ
      dsimp only
      split
      · show ("wait" : Str) ≠ "commit"; decide +kernel
      · split
        · show ("wound" : Str) ≠ "commit"; decide +kernel
        · split
          · show ("abort" : Str) ≠ "commit"; decide +kernel
          · split
            · show ("read" : Str) ≠ "commit"; decide +kernel
            · split
              · show ("skip" : Str) ≠ "commit"; decide +kernel
              · show ("put" : Str) ≠ "commit"; decide +kernel
    unfold takeM at h
    split at h
    · exact absurd (show ("void" : Str) = "commit" from h) (by decide +kernel)
    · have h : (reqM B σ k s n v).2.word = "commit" := h
      unfold reqM at h
      dsimp only at h
      split at h
      · exact ask _ h
      · split at h
        · exact absurd (show ("abort" : Str) = "commit" from h) (by decide +kernel)
        · exact ask _ h
theorem fr_mem {L : List Wd} : L ∈ FR ↔ L ∈ FALL := by
  unfold FR srtL
  constructor
  · intro h
    obtain ⟨y, hy, rfl⟩ := List.mem_map.mp h
    obtain ⟨x, hx, rfl⟩ := List.mem_map.mp ((SKL.byK_stb _).perm.mem_iff.mp hy)
    exact hx
  · intro h
    exact List.mem_map.mpr ⟨(lenK L, L), (SKL.byK_stb _).perm.mem_iff.mpr (List.mem_map.mpr ⟨L, h, rfl⟩), rfl⟩
theorem fr_srt {i j : Nat} {L M : List Wd} (hi : FR[i]? = some L) (hj : FR[j]? = some M) (h : M.length < L.length) : j < i := by
  rcases Nat.lt_or_ge j i with z | z
  · exact z
  · exfalso
    rcases Nat.lt_or_eq_of_le z with z | z
    · have s := SKL.byK_srt (FALL.map fun L => (lenK L, L))
      unfold FR srtL at hi hj
      rw [List.getElem?_map] at hi hj
      cases ei : (SKL.byK (FALL.map fun L => (lenK L, L)))[i]? with
      | none => rw [ei] at hi; cases hi
      | some p =>
      cases ej : (SKL.byK (FALL.map fun L => (lenK L, L)))[j]? with
      | none => rw [ej] at hj; cases hj
      | some q =>
      rw [ei] at hi
      rw [ej] at hj
      cases hi
      cases hj
      obtain ⟨li, gi⟩ := List.getElem?_eq_some_iff.mp ei
      obtain ⟨lj, gj⟩ := List.getElem?_eq_some_iff.mp ej
      have w := List.pairwise_iff_getElem.mp s i j li lj z
      rw [gi, gj] at w
      have w : ¬ (q.1 < p.1) := of_decide_eq_false w
      have key : ∀ r ∈ SKL.byK (FALL.map fun L => (lenK L, L)), r.1 = (r.2.length : Int) := fun r hr => by
        obtain ⟨x, hx, rfl⟩ := List.mem_map.mp ((SKL.byK_stb _).perm.mem_iff.mp hr)
        rfl
      rw [key p (List.mem_of_getElem? ei), key q (List.mem_of_getElem? ej)] at w
      have h : q.2.length < p.2.length := h
      omega
    · rw [← z, hi] at hj
      cases hj
      omega
theorem some_fault {B : Bkm} {xs : List Stp} : ∀ {n : Nat}, BadAt B xs n → n < xs.length → ∃ m, FaultIs B xs (some m) := fun {n} => by
  induction n using Nat.strongRecOn with
  | ind n ih =>
    intro h hn
    by_cases c : ∃ l, l < n ∧ BadAt B xs l
    · obtain ⟨l, hl, hb⟩ := c
      exact ih l hl hb (by omega)
    · exact ⟨_, n, rfl, hn, h, fun j hj q => c ⟨j, hj, q⟩⟩
/-- the first run with a fault has it at its end -/
theorem first_fault {B : Bkm} (hf : ∀ x ∈ ENT, B.f x ∈ chs x) (he : isEnds (.str B.ends)) (hk : 1 ≤ B.keep) {i : Nat} {L : List Wd} (hi : FR[i]? = some L) (hF : HasF B L) (hno : ∀ (j : Nat) M, j < i → FR[j]? = some M → ¬ HasF B M) : FaultIs B (xsK L) (some (L.length : Int)) := by
  obtain ⟨m, j, rfl, hj, hb, hmin⟩ := hF
  have hlx : (xsK L).length = L.length := List.length_map ..
  rw [hlx] at hj
  by_cases c : j = L.length - 1
  · exact ⟨j, by omega, by rw [hlx]; exact hj, hb, hmin⟩
  · exfalso
    have hLA := fr_mem.mp (List.mem_of_getElem? hi)
    have hLj : L[j]? = some L[j] := List.getElem?_eq_getElem hj
    obtain ⟨s, hs⟩ : ∃ s, stpK L[j] = .com s := by
      have hx : (xsK L)[j]? = some (stpK L[j]) := by rw [List.getElem?_map, hLj]; rfl
      have hw := hb.1
      unfold outN at hw
      rw [hx] at hw
      exact word_com hw
    have hk1 : L[j].1 = .cm := by
      generalize L[j] = w at hs
      obtain ⟨k, n⟩ := w
      cases k <;> first | rfl | cases hs
    have z := pre_in
    rw [List.all_eq_true] at z
    have z1 := z L hLA
    rw [List.all_eq_true] at z1
    have z2 := z1 j (List.mem_range.mpr (by omega))
    rw [hLj] at z2
    have z2 : (!decide (L[j].1 = .cm) || (decide (L.take (j + 1) ∈ FALL) || (decide (L.take (j + 1) ∈ PRE) || decide (L.take (j + 1) = P17)))) = true := z2
    rw [hk1, decide_eq_true rfl, Bool.not_true, Bool.false_or, Bool.or_eq_true, Bool.or_eq_true] at z2
    have ex : (xsK L).take (j + 1) = xsK (L.take (j + 1)) := (List.map_take).symm
    have hbM : BadAt B (xsK (L.take (j + 1))) j := by
      rw [← ex]; exact (pre_bad (Nat.lt_succ_self j)).mpr hb
    have hlM : (L.take (j + 1)).length = j + 1 := by rw [List.length_take]; omega
    rcases z2 with z2 | z2 | z2
    · have hM := of_decide_eq_true z2
      obtain ⟨i', hi'⟩ := List.mem_iff_getElem?.mp (fr_mem.mpr hM)
      refine hno i' _ (fr_srt hi hi' (by rw [hlM]; omega)) hi' ⟨1 + (j : Nat), j, rfl, by rw [List.length_map, hlM]; omega, hbM, fun l hl => ?_⟩
      rw [← ex]
      exact fun q => hmin l hl ((pre_bad (by omega)).mp q)
    · have hM := of_decide_eq_true z2
      have zs := pre_sym
      rw [List.all_eq_true] at zs
      obtain ⟨p, cc, A, h1, h2⟩ := symA_ok (zs _ hM) hf he hk
      have h1 := of_decide_eq_true h1
      have hne : xsK (L.take (j + 1)) ≠ [] := fun q => by have := congrArg List.length q; rw [List.length_map, hlM] at this; cases this
      have w := badC_ok hne h2 h1
      rw [List.length_map, hlM] at w
      exact absurd (w.mpr hbM) (by decide)
    · have hM := of_decide_eq_true z2
      rw [hM] at hbM hlM
      obtain ⟨q, p, cc, hi2, A, h1, h2⟩ := symB_ok p17_sym hf he hk
      rw [Bool.or_eq_true] at h1
      rcases h1 with h1 | h1
      · have w := badC_ok (by simp) h2 (of_decide_eq_true h1)
        have e : (xsK P17).length - 1 = j := by rw [List.length_map, hlM]; rfl
        rw [e] at w
        exact absurd (w.mpr hbM) (by decide)
      · obtain ⟨p', c', A', g1, g2⟩ := sym_at hf hi2 A h1
        have w := badC_ok (by simp) g2 (of_decide_eq_true g1)
        have hb2 := w.mp rfl
        have hQ : Q17 ∈ FALL := by decide +kernel
        obtain ⟨i', hi'⟩ := List.mem_iff_getElem?.mp (fr_mem.mpr hQ)
        have l4 : j + 1 = 4 := hlM.symm
        obtain ⟨m', hm'⟩ := some_fault hb2 (show (xsK Q17).length - 1 < (xsK Q17).length by decide)
        exact hno i' _ (fr_srt hi hi' (by show 3 < L.length; omega)) hi' ⟨m', hm'⟩
end
end K27

namespace K27
open PySem L2 SI CM BK OWN MIR StX TX TL
section
variable {w : World} {K : PySem.W.Frag} {mg : Str → Option Value} {base : Heap} (T : Txt w K mg)
/-- something that lets a run err: answers, the way to end, more than one kept version -/
structure Pt where
  tb : List (En × An)
  en : Option Bool
  k2 : Bool
def PTS : List Pt := [⟨[(.rl, .last)], none, false⟩, ⟨[(.ru, .last)], none, false⟩, ⟨[(.ra, .last)], none, false⟩, ⟨[(.ru, .opn)], none, false⟩, ⟨[(.rb, .opn)], none, false⟩, ⟨[(.ra, .opn)], some false, false⟩, ⟨[(.pf, .put)], none, false⟩,
  ⟨[(.wa, .skip)], none, false⟩, ⟨[(.pl, .skip)], none, false⟩, ⟨[(.pu, .skip)], none, false⟩, ⟨[(.pb, .skip)], none, false⟩, ⟨[(.wb, .skip)], some false, false⟩, ⟨[(.wb, .skip), (.rb, .last)], none, false⟩, ⟨[(.ra, .opn), (.po, .put)], none, false⟩, ⟨[(.ra, .opn), (.pa, .skip)], none, false⟩,
  ⟨[(.rl, .old), (.wl, .skip)], none, true⟩, ⟨[(.rl, .old), (.wu, .skip)], none, true⟩, ⟨[(.rl, .old), (.wb, .skip)], none, true⟩, ⟨[(.ru, .old), (.wl, .skip)], none, true⟩, ⟨[(.ru, .old), (.wu, .skip)], none, true⟩, ⟨[(.ru, .old), (.wb, .skip)], none, true⟩]
def Pt.In (P : Pt) (B : Bkm) : Prop := (∀ q ∈ P.tb, B.f q.1.s = q.2.s) ∧ (∀ b, P.en = some b → B.ends = enS b) ∧ (P.k2 = true → 2 ≤ B.keep)
def Pt.mt (P : Pt) (t : DT) : Bool := P.tb.all (fun q => decide (gt t.tb q.1 = some q.2)) && ((match P.en with | none => true | some b => decide (t.en = some b)) && (!P.k2 || match t.kp with | .lo m => decide (2 ≤ m) | .eq k => decide (2 ≤ k)))
theorem Pt.mt_ok {P : Pt} {t : DT} {B : Bkm} (A : t.Ok B) (h : P.mt t = true) : P.In B := by
  unfold Pt.mt at h
  rw [Bool.and_eq_true, Bool.and_eq_true, List.all_eq_true] at h
  obtain ⟨h1, h2, h3⟩ := h
  refine ⟨fun q hq => A.tb _ _ (of_decide_eq_true (h1 q hq)), fun b hb => ?_, fun hk => ?_⟩
  · rw [hb] at h2
    exact A.en b (of_decide_eq_true h2)
  · rw [hk] at h3
    have kp := A.kp
    cases e : t.kp with
    | lo m =>
      rw [e] at h3 kp
      have h3 := of_decide_eq_true (show decide (2 ≤ m) = true from h3)
      have kp : m ≤ B.keep := kp
      omega
    | eq k =>
      rw [e] at h3 kp
      have h3 := of_decide_eq_true (show decide (2 ≤ k) = true from h3)
      have kp : B.keep = k := kp
      omega
/-- a table to begin with -/
def Pt.t (P : Pt) : DT := ⟨P.tb, P.en, if P.k2 = true then .lo 2 else .lo 1⟩
theorem Pt.t_ok {P : Pt} {B : Bkm} (h : P.In B) (hk : 1 ≤ B.keep) : P.t.Ok B := by
  refine ⟨fun e a z => h.1 (e, a) (gt_mem z), h.2.1, ?_⟩
  unfold Pt.t
  dsimp only
  by_cases c : P.k2 = true
  · rw [if_pos c]; exact h.2.2 c
  · rw [if_neg c]; exact hk
/-- a run that errs for each of them -/
def WIT : List (List Wd) := [[kw 2, kc 2, kr 1, kc 1], [kw 2, kc 2, kw 3, kr 1, kc 1], [kw 1, kr 2, kc 1, kc 2], [kw 2, kc 2, kw 3, kr 1, kc 3, kc 1], [kw 2, kr 1, kc 2, kc 1], [kw 1, kr 2, kc 2], [kr 2, kw 1, kc 2, kc 1], [kw 1, kw 2, kc 1, kc 2], [kr 2, kw 2, kc 2, kw 1, kc 1], [kr 2, kw 2, kc 2, kw 3, kw 1, kc 1],
  [kr 2, kw 2, kw 1, kc 2, kc 1], [kw 2, kw 1, kc 1], [kw 2, kw 1, kr 1, kc 2, kc 1], [kw 1, kr 2, kw 1, kc 1, kc 2], [kw 1, kr 3, kw 2, kc 1, kc 2], [kw 2, kc 2, kw 1, kr 1, kc 1], [kw 2, kc 2, kw 3, kw 1, ka 3, kr 1, kc 1], [kw 2, kw 1, kc 2, kr 1, kc 1], [kw 2, kc 2, kw 1, kw 3, kr 1, kc 1], [kw 2, kc 2, kw 3, kw 1, kr 1, kc 1], [kw 2, kw 1, kc 2, kw 3, kr 1, kc 1]]
theorem wit_in : ∀ L ∈ WIT, L ∈ FALL ∧ L ≠ [] := by decide +kernel
theorem wit_len : PTS.length = WIT.length := by decide +kernel
theorem wit_err : (PTS.zip WIT).all (fun q => symD [1, 2, 3] (fun _ os c => decide (badL q.2 os c = some true)) 90 q.1.t d0 [] 0 (dsK q.2)) = true := by decide +kernel
theorem fr_clean : FALL.all (fun L => symK (fun t os c => decide (badL L os c = some false) || PTS.any fun P => P.mt t) L) = true := by decide +kernel
/-- a book errs exactly if one of them is met -/
theorem errs_iff {B : Bkm} (hf : ∀ x ∈ ENT, B.f x ∈ chs x) (he : isEnds (.str B.ends)) (hk : 1 ≤ B.keep) : (∃ L ∈ FR, HasF B L) ↔ ∃ P ∈ PTS, P.In B := by
  constructor
  · rintro ⟨L0, hL0, hF0⟩
    obtain ⟨i0, hi0⟩ := List.mem_iff_getElem?.mp hL0
    -- the first one
    obtain ⟨i, L, hi, hF, hno⟩ : ∃ (i : Nat) (L : List Wd), FR[i]? = some L ∧ HasF B L ∧ ∀ (j : Nat) M, j < i → FR[j]? = some M → ¬ HasF B M := by
      induction i0 using Nat.strongRecOn generalizing L0 with
      | ind i ih =>
        by_cases c2 : ∃ j, j < i ∧ ∃ L, FR[j]? = some L ∧ HasF B L
        · obtain ⟨j, hj, L, h1, h2⟩ := c2
          exact ih j hj L (List.mem_of_getElem? h1) h2 h1
        · exact ⟨i, L0, hi0, hF0, fun j M hj hM q => c2 ⟨j, hj, M, hM, q⟩⟩
    obtain ⟨j, ej, hj, hb, _⟩ := first_fault hf he hk hi hF hno
    have hLA := fr_mem.mp (List.mem_of_getElem? hi)
    have hne := (fall_ok L hLA).2.2
    have z := fr_clean
    rw [List.all_eq_true] at z
    obtain ⟨t', os, c, A, h1, h2, h3⟩ := symK_at hf he (t0_ok hk) (z L hLA)
    rw [Bool.or_eq_true] at h1
    rcases h1 with h1 | h1
    · exfalso
      have w := badL_ok hne h2 h3 (of_decide_eq_true h1)
      have : L.length - 1 = j := by omega
      rw [this] at w
      exact absurd (w.mpr hb) (by decide)
    · rw [List.any_eq_true] at h1
      obtain ⟨P, hP, hm⟩ := h1
      exact ⟨P, hP, Pt.mt_ok A hm⟩
  · rintro ⟨P, hP, hIn⟩
    obtain ⟨j, hj⟩ := List.mem_iff_getElem?.mp hP
    have hjl : j < WIT.length := by rw [← wit_len]; exact (List.getElem?_eq_some_iff.mp hj).1
    have hL : WIT[j]? = some WIT[j] := List.getElem?_eq_getElem hjl
    generalize WIT[j] = L at hL
    have hzip : (P, L) ∈ PTS.zip WIT := List.mem_of_getElem? (i := j) (by rw [List.getElem?_zip_eq_some]; exact ⟨hj, hL⟩)
    have z := wit_err
    rw [List.all_eq_true] at z
    obtain ⟨hLA, hne⟩ := wit_in L (List.mem_of_getElem? hL)
    obtain ⟨t', os, c, A, h1, h2, h3⟩ := symK_at hf he (Pt.t_ok hIn hk) (z _ hzip)
    have w := badL_ok hne h2 h3 (of_decide_eq_true h1)
    have hlx : (xsK L).length = L.length := List.length_map ..
    have l0 : 0 < L.length := List.length_pos_iff.mpr hne
    obtain ⟨m, hm⟩ := some_fault (w.mp rfl) (by rw [hlx]; omega)
    exact ⟨L, fr_mem.mpr hLA, m, hm⟩
end
end K27

namespace K27
open PySem L2 SI CM BK OWN MIR StX TX TL
section
variable {w : World} {K : PySem.W.Frag} {mg : Str → Option Value} {base : Heap} (T : Txt w K mg)
/-- the conditions of the loop at an entry -/
structure OkE (f : Str → Str) (r : Str) (e : Str) : Prop where
  l : ¬ (f e = "last" ∧ e ≠ "read below")
  o : ¬ (f e = "open" ∧ (e ≠ "read above" ∨ r = "now"))
  p : ¬ (f e = "put" ∧ e = "write free passed")
  s : ¬ (f e = "skip" ∧ e ∈ (["write above", "write late passed"] : List Str))
  t : ¬ (f e = "skip" ∧ e ∈ (["write under passed", "write below passed"] : List Str))
theorem en_of : ∀ e ∈ ENT, ∃ x : En, e = x.s := by
  intro e he
  have : ENT = [En.rl, .ru, .rb, .ra, .wl, .wu, .wb, .wa, .pf, .po, .pl, .pu, .pb, .pa].map En.s := by decide +kernel
  rw [this] at he
  obtain ⟨x, _, h⟩ := List.mem_map.mp he
  exact ⟨x, h.symm⟩
theorem an_of {f : Str → Str} (hf : ∀ x ∈ ENT, f x ∈ chs x) (x : En) : ∃ a ∈ chsA x, f x.s = a.s := by
  have h := hf x.s (en_mem x)
  rw [chsA_ok] at h
  obtain ⟨a, h1, h2⟩ := List.mem_map.mp h
  exact ⟨a, h1, h2.symm⟩
/-- a single answer that errs at once -/
def one1 (x : En) (a : An) (en : Option Bool) : Bool := PTS.any fun P => decide (P.tb = [(x, a)] ∧ P.en = en ∧ P.k2 = false)
theorem one1_ok {x : En} {a : An} {en : Option Bool} (h : one1 x a en = true) {B : Bkm} (hx : B.f x.s = a.s) (he : ∀ b, en = some b → B.ends = enS b) : ∃ P ∈ PTS, P.In B := by
  unfold one1 at h
  rw [List.any_eq_true] at h
  obtain ⟨P, hP, h⟩ := h
  obtain ⟨h1, h2, h3⟩ := of_decide_eq_true h
  refine ⟨P, hP, fun q hq => ?_, fun b hb => he b (h2 ▸ hb), fun z => by rw [h3] at z; cases z⟩
  rw [h1] at hq
  cases List.mem_singleton.mp hq
  exact hx
theorem one_last : ∀ x : En, (chsA x).all (fun a => !decide (a = .last) || (decide (x = .rb) || one1 x a none)) = true := by intro x; cases x <;> decide +kernel
theorem one_opn : ∀ x : En, (chsA x).all (fun a => !decide (a = .opn) || (decide (x = .ra) || one1 x a none)) = true := by intro x; cases x <;> decide +kernel
theorem pt_last {f : Str → Str} {r : Str} {k : Nat} (hf : ∀ x ∈ ENT, f x ∈ chs x) {e : Str} (he : e ∈ ENT) (h : f e = "last") (n : e ≠ "read below") : ∃ P ∈ PTS, P.In ⟨f, r, k⟩ := by
  obtain ⟨x, rfl⟩ := en_of e he
  obtain ⟨a, ha, ea⟩ := an_of hf x
  have z := one_last x
  rw [List.all_eq_true] at z
  have z := z a ha
  have al : a = .last := an_inj.mp (ea.symm.trans h)
  subst al
  have nx : x ≠ .rb := fun q => n (by rw [q]; rfl)
  rw [decide_eq_true rfl, decide_eq_false nx] at z
  exact one1_ok z ea (fun b hb => by cases hb)
theorem pt_opn {f : Str → Str} {r : Str} {k : Nat} (hf : ∀ x ∈ ENT, f x ∈ chs x) {e : Str} (he : e ∈ ENT) (h : f e = "open") (n : e ≠ "read above") : ∃ P ∈ PTS, P.In ⟨f, r, k⟩ := by
  obtain ⟨x, rfl⟩ := en_of e he
  obtain ⟨a, ha, ea⟩ := an_of hf x
  have z := one_opn x
  rw [List.all_eq_true] at z
  have z := z a ha
  have al : a = .opn := an_inj.mp (ea.symm.trans h)
  subst al
  have nx : x ≠ .ra := fun q => n (by rw [q]; rfl)
  rw [decide_eq_true rfl, decide_eq_false nx] at z
  exact one1_ok z ea (fun b hb => by cases hb)
theorem pt_of {B : Bkm} (P : Pt) (hP : P ∈ PTS) (h1 : ∀ q ∈ P.tb, B.f q.1.s = q.2.s) (h2 : ∀ b, P.en = some b → B.ends = enS b) (h3 : P.k2 = true → 2 ≤ B.keep) : ∃ P ∈ PTS, P.In B := ⟨P, hP, h1, h2, h3⟩
theorem mem1 {f : Str → Str} {x : En} {a : An} (h : f x.s = a.s) : ∀ q ∈ [(x, a)], f q.1.s = q.2.s := fun q hq => by cases List.mem_singleton.mp hq; exact h
theorem mem2 {f : Str → Str} {x y : En} {a b : An} (h : f x.s = a.s) (g : f y.s = b.s) : ∀ q ∈ [(x, a), (y, b)], f q.1.s = q.2.s := fun q hq => by
  rcases List.mem_cons.mp hq with e | e
  · cases e; exact h
  · cases List.mem_singleton.mp e; exact g
theorem no_pt {f : Str → Str} {r : Str} {k : Nat} (h : ∀ e ∈ ENT, OkE f r e) (h1 : ¬ (f "write below" = "skip" ∧ (r = "now" ∨ f "read below" = "last"))) (h2 : ¬ (f "read above" = "open" ∧ (f "write own passed" = "put" ∨ f "write above passed" = "skip")))
    (h3 : ¬ (1 < k ∧ (f "read late" = "old" ∨ f "read under" = "old") ∧ (f "write late" = "skip" ∨ f "write under" = "skip" ∨ f "write below" = "skip"))) : ¬ ∃ P ∈ PTS, P.In ⟨f, r, k⟩ := by
  rintro ⟨P, hP, t, en, kp⟩
  have H : ∀ x : En, OkE f r x.s := fun x => h _ (en_mem x)
  unfold PTS at hP
  simp only [List.mem_cons, List.not_mem_nil, or_false] at hP
  have g : ∀ {x : En} {a : An}, (x, a) ∈ P.tb → f x.s = a.s := fun {x a} q => t (x, a) q
  have e0 : P.en = some false → r = "now" := fun z => en false z
  have k0 : P.k2 = true → 1 < k := kp
  clear t en kp
  rcases hP with rfl | rfl | rfl | rfl | rfl | rfl | rfl | rfl | rfl | rfl | rfl | rfl | rfl | rfl | rfl | rfl | rfl | rfl | rfl | rfl | rfl
  · exact (H .rl).l ⟨g (a := .last) (by decide), by decide +kernel⟩
  · exact (H .ru).l ⟨g (a := .last) (by decide), by decide +kernel⟩
  · exact (H .ra).l ⟨g (a := .last) (by decide), by decide +kernel⟩
  · exact (H .ru).o ⟨g (a := .opn) (by decide), .inl (by decide +kernel)⟩
  · exact (H .rb).o ⟨g (a := .opn) (by decide), .inl (by decide +kernel)⟩
  · exact (H .ra).o ⟨g (a := .opn) (by decide), .inr (e0 rfl)⟩
  · exact (H .pf).p ⟨g (a := .put) (by decide), rfl⟩
  · exact (H .wa).s ⟨g (a := .skip) (by decide), by decide +kernel⟩
  · exact (H .pl).s ⟨g (a := .skip) (by decide), by decide +kernel⟩
  · exact (H .pu).t ⟨g (a := .skip) (by decide), by decide +kernel⟩
  · exact (H .pb).t ⟨g (a := .skip) (by decide), by decide +kernel⟩
  · exact h1 ⟨g (x := .wb) (a := .skip) (by decide), .inl (e0 rfl)⟩
  · exact h1 ⟨g (x := .wb) (a := .skip) (by decide), .inr (g (x := .rb) (a := .last) (by decide))⟩
  · exact h2 ⟨g (x := .ra) (a := .opn) (by decide), .inl (g (x := .po) (a := .put) (by decide))⟩
  · exact h2 ⟨g (x := .ra) (a := .opn) (by decide), .inr (g (x := .pa) (a := .skip) (by decide))⟩
  · exact h3 ⟨k0 rfl, .inl (g (x := .rl) (a := .old) (by decide)), .inl (g (x := .wl) (a := .skip) (by decide))⟩
  · exact h3 ⟨k0 rfl, .inl (g (x := .rl) (a := .old) (by decide)), .inr (.inl (g (x := .wu) (a := .skip) (by decide)))⟩
  · exact h3 ⟨k0 rfl, .inl (g (x := .rl) (a := .old) (by decide)), .inr (.inr (g (x := .wb) (a := .skip) (by decide)))⟩
  · exact h3 ⟨k0 rfl, .inr (g (x := .ru) (a := .old) (by decide)), .inl (g (x := .wl) (a := .skip) (by decide))⟩
  · exact h3 ⟨k0 rfl, .inr (g (x := .ru) (a := .old) (by decide)), .inr (.inl (g (x := .wu) (a := .skip) (by decide)))⟩
  · exact h3 ⟨k0 rfl, .inr (g (x := .ru) (a := .old) (by decide)), .inr (.inr (g (x := .wb) (a := .skip) (by decide)))⟩
theorem pt_six {f : Str → Str} {r : Str} {k : Nat} (k2 : 1 < k) (a : f "read late" = "old" ∨ f "read under" = "old") (b : f "write late" = "skip" ∨ f "write under" = "skip" ∨ f "write below" = "skip") : ∃ P ∈ PTS, P.In ⟨f, r, k⟩ := by
  have fin : ∀ {x y : En}, f x.s = (An.old).s → f y.s = (An.skip).s → (⟨[(x, .old), (y, .skip)], none, true⟩ : Pt) ∈ PTS → ∃ P ∈ PTS, P.In ⟨f, r, k⟩ := fun h g m => ⟨_, m, mem2 h g, fun b z => (by cases z), fun _ => k2⟩
  rcases a with a | a <;> rcases b with b | b | b
  · exact fin (x := .rl) (y := .wl) a b (by unfold PTS; simp)
  · exact fin (x := .rl) (y := .wu) a b (by unfold PTS; simp)
  · exact fin (x := .rl) (y := .wb) a b (by unfold PTS; simp)
  · exact fin (x := .ru) (y := .wl) a b (by unfold PTS; simp)
  · exact fin (x := .ru) (y := .wu) a b (by unfold PTS; simp)
  · exact fin (x := .ru) (y := .wb) a b (by unfold PTS; simp)
theorem pt_one {f : Str → Str} {r : Str} {k : Nat} {x : En} {a : An} (h : f x.s = a.s) (m : (⟨[(x, a)], none, false⟩ : Pt) ∈ PTS) : ∃ P ∈ PTS, P.In ⟨f, r, k⟩ := ⟨_, m, mem1 h, fun b z => (by cases z), fun z => (by cases z)⟩
theorem pt_now {f : Str → Str} {r : Str} {k : Nat} {x : En} {a : An} (h : f x.s = a.s) (e : r = "now") (m : (⟨[(x, a)], some false, false⟩ : Pt) ∈ PTS) : ∃ P ∈ PTS, P.In ⟨f, r, k⟩ := ⟨_, m, mem1 h, fun b z => (by cases z; exact e), fun z => (by cases z)⟩
theorem pt_two {f : Str → Str} {r : Str} {k : Nat} {x y : En} {a b : An} (h : f x.s = a.s) (g : f y.s = b.s) (m : (⟨[(x, a), (y, b)], none, false⟩ : Pt) ∈ PTS) : ∃ P ∈ PTS, P.In ⟨f, r, k⟩ := ⟨_, m, mem2 h g, fun b z => (by cases z), fun z => (by cases z)⟩
def spClean : Sp := fun vs H Q _ => ∃ (t : Addr) (f : Str → Str) (r : Str) (k : Nat), vs = [.ref t, .str r, .int (k : Int)] ∧ H t = some (.dK (tabS ENT f)) ∧ (∀ x ∈ ENT, f x ∈ chs x) ∧ ∀ (H' : Hp) (b : Bool), Same H H' → (b = false ↔ ∃ P ∈ PTS, P.In ⟨f, r, k⟩) → Q (.bl b) H'
theorem ok_clean : FnOk PP w K mg base CX0 1 T.f_law_clean T.d_law_clean ["_law_table_here", "_law_rule", "_law_kept"] spClean := by
  refine T.F_law_clean.ok sc_law_clean (fun vs H Q E h => ?_) (fun cdv A outer s H vs Q E hr h => ?_)
  · obtain ⟨t, f, r, k, rfl, _⟩ := h
    rfl
  · obtain ⟨t, f, r, k, rfl, ht, hf, kk⟩ := h
    refine ⟨_, C8.pss_cut (ps_lock (ps_for PassesOwn.never rfl (pi_keys (pv 0)) (pg_name (i := 3) sc_law_clean.nd rfl (.inl rfl))
 (pss_cons (ps_set (i := 4) sc_law_clean.nd rfl (.inl rfl) (pe_dget (hu_of hr) (pv 0) (pv 3) (fun _ _ => rfl)))
 (C8.pss_cut (ps_if (PW.pt (pw_and (pt_cmpR op_eq (pv 4) pe_str (nomark _)) (pw_and1 (pt_cmpR op_ne (pv 3) pe_str (nomark _)))))
 (pss_one (ps_ret pe_bl))
 pss_nil)
 (C8.pss_cut (ps_if (PW.pt (pw_and (pt_cmpR op_eq (pv 4) pe_str (nomark _)) (pw_and1 (PW.pt (pw_or (pt_cmpR op_ne (pv 3) pe_str (nomark _)) (pw_or1 (pt_cmpR op_eq (pv 1) pe_str (nomark _))))))))
 (pss_one (ps_ret pe_bl))
 pss_nil)
 (C8.pss_cut (ps_if (PW.pt (pw_and (pt_cmpR op_eq (pv 4) pe_str (nomark _)) (pw_and1 (pt_cmpR op_eq (pv 3) pe_str (nomark _)))))
 (pss_one (ps_ret pe_bl))
 pss_nil)
 (C8.pss_cut (ps_if (PW.pt (pw_and (pt_cmpR op_eq (pv 4) pe_str (nomark _)) (pw_and1 (pt_cmpR op_in_seq (pv 3) (pe_lst (pa_cons pe_str (pa_cons pe_str pa_nil))) rfl))))
 (pss_one (ps_ret pe_bl))
 pss_nil)
 (pss_one (ps_if (PW.pt (pw_and (pt_cmpR op_eq (pv 4) pe_str (nomark _)) (pw_and1 (pt_cmpR op_in_seq (pv 3) (pe_lst (pa_cons pe_str (pa_cons pe_str pa_nil))) rfl))))
 (pss_one (ps_ret pe_bl))
 pss_nil)))))))))
 (C8.pss_cut (ps_if (PW.pt (pw_and (pt_cmpR op_eq (pe_dget (hu_of hr) (pv 0) pe_str (fun _ _ => rfl)) pe_str (nomark _)) (pw_and1 (PW.pt (pw_or (pt_cmpR op_eq (pv 1) pe_str (nomark _)) (pw_or1 (pt_cmpR op_eq (pe_dget (hu_of hr) (pv 0) pe_str (fun _ _ => rfl)) pe_str (nomark _))))))))
 (pss_one (ps_ret pe_bl))
 pss_nil)
 (C8.pss_cut (ps_if (pt_cmpR op_eq (pe_dget (hu_of hr) (pv 0) pe_str (fun _ _ => rfl)) pe_str (nomark _))
 (pss_one (ps_if (PW.pt (pw_or (pt_cmpR op_eq (pe_dget (hu_of hr) (pv 0) pe_str (fun _ _ => rfl)) pe_str (nomark _)) (pw_or1 (pt_cmpR op_eq (pe_dget (hu_of hr) (pv 0) pe_str (fun _ _ => rfl)) pe_str (nomark _)))))
 (pss_one (ps_ret pe_bl))
 pss_nil))
 pss_nil)
 (pss_cons (ps_set (i := 5) sc_law_clean.nd rfl (.inl rfl) (pe_cmpR op_in_seq pe_str (pe_lst (pa_cons (pe_dget (hu_of hr) (pv 0) pe_str (fun _ _ => rfl)) (pa_cons (pe_dget (hu_of hr) (pv 0) pe_str (fun _ _ => rfl)) pa_nil))) rfl))
 (pss_cons (ps_set (i := 6) sc_law_clean.nd rfl (.inl rfl) (pe_lst (pa_cons (pe_dget (hu_of hr) (pv 0) pe_str (fun _ _ => rfl)) (pa_cons (pe_dget (hu_of hr) (pv 0) pe_str (fun _ _ => rfl)) (pa_cons (pe_dget (hu_of hr) (pv 0) pe_str (fun _ _ => rfl)) pa_nil)))))
 (pss_one (ps_ret (pe_not (pe_and (pe_cmpR op_gt (pv 2) pe_int (nomark _)) (pe_and (pv 5) (pe_one (pe_cmpR op_in_seq pe_str (pv 6) rfl))))))))))), ?_⟩
    have no : ∀ (H' : Hp), Same H H' → (∃ P ∈ PTS, P.In ⟨f, r, k⟩) → Q (.bl false) H' := fun H' s h => kk H' false s ⟨fun _ => h, fun _ => rfl⟩
    have two : 2 ≤ sizeLine := by decide
    refine ⟨fun τ H' => ∃ v3 v4, τ = [some (.ref t), some (.str r), some (.int (k : Int)), v3, v4, none, none] ∧ Same H H' ∧ ∀ e ∈ ENT, OkE f r e, ?_, ?_⟩
    · refine ⟨t, .dK (tabS ENT f), ht, trivial, fun od => ⟨_, rfl, t, od, rfl, .inl ⟨tabS ENT f, upd_same, for_it walk_keys (fun i τ H' => ∃ v3 v4, τ = [some (.ref t), some (.str r), some (.int (k : Int)), v3, v4, none, none] ∧ LockS t od (.dK (tabS ENT f)) H H' ∧ ∀ (j : Nat) e, j < i → ENT[j]? = some e → OkE f r e)
        ⟨none, none, rfl, LockS.start, fun j e hj => absurd hj (by omega)⟩ (fun i τ H' _ ⟨_, _, _, z, _⟩ => z.at_) ?_ ?_⟩⟩⟩
      · rintro i x τ H3b H3 hi ⟨v3, v4, rfl, L3, hall⟩ ⟨rfl, kx, v, hk, rfl⟩
        have hk' : (ENT.map fun e => ((Sum.inr e : Key), V.str (f e)))[i]? = some (kx, v) := hk
        rw [List.getElem?_map] at hk'
        cases hqq : ENT[i]? with
        | none => rw [hqq] at hk'; cases hk'
        | some y =>
        rw [hqq] at hk'
        cases hk'
        have hy : y ∈ ENT := List.mem_of_getElem? hqq
        obtain ⟨x, rfl⟩ := en_of y hy
        refine ⟨_, rfl, _, rfl, t, .str (f x.s), rfl, .inl ⟨tabS ENT f, Sum.inr x.s, .inr ⟨od, L3.at_⟩, rfl, (val_in (g := V.str) hy).symm⟩, ?_⟩
        have out : ∀ {H' : Hp}, Same H3 H' → (∃ P ∈ PTS, P.In ⟨f, r, k⟩) → H' t = some (.frz od (.dK (tabS ENT f))) ∧ Q (.bl false) (upd H' t (.dK (tabS ENT f))) := fun {H'} s h => ⟨s _ _ L3.at_, no _ ((L3.same s).unlock ht) h⟩
        have key : ∀ {H' : Hp}, Same H3 H' → OkE f r x.s → ∃ v3' v4', [some (V.ref t), some (.str r), some (.int (k : Int)), some (.str x.s), some (.str (f x.s)), none, none] = [some (V.ref t), some (.str r), some (.int (k : Int)), v3', v4', none, none] ∧ LockS t od (.dK (tabS ENT f)) H H' ∧ ∀ (j : Nat) e, j < i + 1 → ENT[j]? = some e → OkE f r e := fun {H'} s h => ⟨_, _, rfl, L3.same s, fun j e hj he => by
          rcases Nat.lt_or_ge j i with z | z
          · exact hall j e z he
          · have : j = i := by omega
            subst this
            rw [hqq] at he
            cases he
            exact h⟩
        -- "last"
        refine ⟨fun τ H' => τ = [some (V.ref t), some (.str r), some (.int (k : Int)), some (.str x.s), some (.str (f x.s)), none, none] ∧ Same H3 H' ∧ ¬ (f x.s = "last" ∧ x.s ≠ "read below"), ?_, ?_⟩
        · refine ⟨_, rfl, rfl, _, rfl, ?_⟩
          rw [ds]
          by_cases c : f x.s = "last"
          · rw [decide_eq_true c]
            refine iteT ⟨_, rfl, rfl, _, rfl, ?_⟩
            rw [show kV (Sum.inr x.s) = V.str x.s from rfl, ds]
            by_cases c2 : x.s = "read below"
            · rw [decide_eq_true c2]
              exact iteF ⟨rfl, Same.refl _, fun z => z.2 c2⟩
            · rw [decide_eq_false c2]
              exact iteT (out (Same.refl _) (pt_last hf hy c c2))
          · rw [decide_eq_false c]
            exact iteF ⟨rfl, Same.refl _, fun z => c z.1⟩
        rintro τ H4 ⟨rfl, s4, c1⟩
        -- "open"
        refine ⟨fun τ H' => τ = [some (V.ref t), some (.str r), some (.int (k : Int)), some (.str x.s), some (.str (f x.s)), none, none] ∧ Same H3 H' ∧ ¬ (f x.s = "open" ∧ (x.s ≠ "read above" ∨ r = "now")), ?_, ?_⟩
        · refine ⟨_, rfl, rfl, _, rfl, ?_⟩
          rw [ds]
          by_cases c : f x.s = "open"
          · rw [decide_eq_true c]
            refine iteT ⟨_, rfl, rfl, _, rfl, ?_⟩
            rw [ds]
            by_cases c2 : x.s = "read above"
            · rw [decide_eq_true c2]
              refine iteF ⟨_, rfl, rfl, _, rfl, ?_⟩
              rw [ds]
              by_cases c3 : r = "now"
              · rw [decide_eq_true c3]
                have ex : x = .ra := en_inj.mp c2
                subst ex
                exact iteT (out s4 (pt_now (x := .ra) (a := .opn) c c3 (by unfold PTS; simp)))
              · rw [decide_eq_false c3]
                exact iteF ⟨rfl, s4, fun z => z.2.elim (fun q => q c2) c3⟩
            · rw [decide_eq_false c2]
              exact iteT (out s4 (pt_opn hf hy c c2))
          · rw [decide_eq_false c]
            exact iteF ⟨rfl, s4, fun z => c z.1⟩
        rintro τ H5 ⟨rfl, s5, c2⟩
        -- "put"
        refine ⟨fun τ H' => τ = [some (V.ref t), some (.str r), some (.int (k : Int)), some (.str x.s), some (.str (f x.s)), none, none] ∧ Same H3 H' ∧ ¬ (f x.s = "put" ∧ x.s = "write free passed"), ?_, ?_⟩
        · refine ⟨_, rfl, rfl, _, rfl, ?_⟩
          rw [ds]
          by_cases c : f x.s = "put"
          · rw [decide_eq_true c]
            refine iteT ⟨_, rfl, rfl, _, rfl, ?_⟩
            rw [ds]
            by_cases c2 : x.s = "write free passed"
            · rw [decide_eq_true c2]
              have ex : x = .pf := en_inj.mp c2
              subst ex
              exact iteT (out s5 (pt_one (x := .pf) (a := .put) c (by unfold PTS; simp)))
            · rw [decide_eq_false c2]
              exact iteF ⟨rfl, s5, fun z => c2 z.2⟩
          · rw [decide_eq_false c]
            exact iteF ⟨rfl, s5, fun z => c z.1⟩
        rintro τ H6 ⟨rfl, s6, c3⟩
        -- "skip"
        refine ⟨fun τ H' => τ = [some (V.ref t), some (.str r), some (.int (k : Int)), some (.str x.s), some (.str (f x.s)), none, none] ∧ Same H3 H' ∧ ¬ (f x.s = "skip" ∧ x.s ∈ (["write above", "write late passed"] : List Str)), ?_, ?_⟩
        · refine ⟨_, rfl, rfl, _, rfl, ?_⟩
          rw [ds]
          by_cases c : f x.s = "skip"
          · rw [decide_eq_true c]
            refine iteT ⟨_, rfl, two, fun N nN => ⟨N, _, rfl, .inl (SqL.of upd_same), rfl, rfl, _, rfl, ?_⟩⟩
            have s7 := same_new (o := .lst [.str "write above", .str "write late passed"]) s6 nN
            rw [show inV (V.str x.s) [V.str "write above", V.str "write late passed"] = decide (x.s ∈ (["write above", "write late passed"] : List Str)) from inV_str x.s ["write above", "write late passed"]]
            by_cases c2 : x.s ∈ (["write above", "write late passed"] : List Str)
            · rw [decide_eq_true c2]
              refine iteT (out s7 ?_)
              rcases List.mem_cons.mp c2 with z | z
              · have ex : x = .wa := en_inj.mp z
                subst ex
                exact pt_one (x := .wa) (a := .skip) c (by unfold PTS; simp)
              · have ex : x = .pl := en_inj.mp (List.mem_singleton.mp z)
                subst ex
                exact pt_one (x := .pl) (a := .skip) c (by unfold PTS; simp)
            · rw [decide_eq_false c2]
              exact iteF ⟨rfl, s7, fun z => c2 z.2⟩
          · rw [decide_eq_false c]
            exact iteF ⟨rfl, s6, fun z => c z.1⟩
        rintro τ H7 ⟨rfl, s7, c4⟩
        refine ⟨_, rfl, rfl, _, rfl, ?_⟩
        rw [ds]
        by_cases c : f x.s = "skip"
        · rw [decide_eq_true c]
          refine iteT ⟨_, rfl, two, fun N nN => ⟨N, _, rfl, .inl (SqL.of upd_same), rfl, rfl, _, rfl, ?_⟩⟩
          have s8 := same_new (o := .lst [.str "write under passed", .str "write below passed"]) s7 nN
          rw [show inV (V.str x.s) [V.str "write under passed", V.str "write below passed"] = decide (x.s ∈ (["write under passed", "write below passed"] : List Str)) from inV_str x.s ["write under passed", "write below passed"]]
          by_cases c5 : x.s ∈ (["write under passed", "write below passed"] : List Str)
          · rw [decide_eq_true c5]
            refine iteT (out s8 ?_)
            rcases List.mem_cons.mp c5 with z | z
            · have ex : x = .pu := en_inj.mp z
              subst ex
              exact pt_one (x := .pu) (a := .skip) c (by unfold PTS; simp)
            · have ex : x = .pb := en_inj.mp (List.mem_singleton.mp z)
              subst ex
              exact pt_one (x := .pb) (a := .skip) c (by unfold PTS; simp)
          · rw [decide_eq_false c5]
            exact iteF (key s8 ⟨c1, c2, c3, c4, fun z => c5 z.2⟩)
        · rw [decide_eq_false c]
          exact iteF (key s7 ⟨c1, c2, c3, c4, fun z => c z.1⟩)
      · rintro τ H3 ⟨v3, v4, rfl, L3, hall⟩
        rw [tab_len] at hall
        refine ⟨L3.at_, v3, v4, rfl, L3.unlock ht, fun e he => ?_⟩
        obtain ⟨j, hj⟩ := List.mem_iff_getElem?.mp he
        exact hall j e (List.getElem?_eq_some_iff.mp hj).1 hj
    rintro τ H3 ⟨v3, v4, rfl, s3, hE⟩
    have gd : ∀ {H' : Hp} (x : En), Same H H' → DGet H' t (.str x.s) (some (.str (f x.s))) := fun {H'} x s => .inl ⟨tabS ENT f, Sum.inr x.s, .inl (s _ _ ht), rfl, (val_in (g := V.str) (en_mem x)).symm⟩
    -- "write below"
    refine ⟨fun τ H' => τ = [some (V.ref t), some (.str r), some (.int (k : Int)), v3, v4, none, none] ∧ Same H H' ∧ ¬ (f "write below" = "skip" ∧ (r = "now" ∨ f "read below" = "last")), ?_, ?_⟩
    · refine ⟨_, rfl, t, _, rfl, gd .wb s3, rfl, _, rfl, ?_⟩
      rw [ds]
      by_cases c : f En.wb.s = "skip"
      · rw [decide_eq_true c]
        refine iteT ⟨_, rfl, rfl, _, rfl, ?_⟩
        rw [ds]
        by_cases c2 : r = "now"
        · rw [decide_eq_true c2]
          exact iteT (no _ s3 (pt_now (x := .wb) (a := .skip) c c2 (by unfold PTS; simp)))
        · rw [decide_eq_false c2]
          refine iteF ⟨_, rfl, t, _, rfl, gd .rb s3, rfl, _, rfl, ?_⟩
          rw [ds]
          by_cases c3 : f En.rb.s = "last"
          · rw [decide_eq_true c3]
            exact iteT (no _ s3 (pt_two (x := .wb) (a := .skip) (y := .rb) (b := .last) c c3 (by unfold PTS; simp)))
          · rw [decide_eq_false c3]
            exact iteF ⟨rfl, s3, fun z => z.2.elim c2 c3⟩
      · rw [decide_eq_false c]
        exact iteF ⟨rfl, s3, fun z => c z.1⟩
    rintro τ H4 ⟨rfl, s4, h1⟩
    -- "read above"
    refine ⟨fun τ H' => τ = [some (V.ref t), some (.str r), some (.int (k : Int)), v3, v4, none, none] ∧ Same H H' ∧ ¬ (f "read above" = "open" ∧ (f "write own passed" = "put" ∨ f "write above passed" = "skip")), ?_, ?_⟩
    · refine ⟨_, rfl, t, _, rfl, gd .ra s4, rfl, _, rfl, ?_⟩
      rw [ds]
      by_cases c : f En.ra.s = "open"
      · rw [decide_eq_true c]
        refine iteT ⟨_, rfl, t, _, rfl, gd .po s4, rfl, _, rfl, ?_⟩
        rw [ds]
        by_cases c2 : f En.po.s = "put"
        · rw [decide_eq_true c2]
          exact iteT (no _ s4 (pt_two (x := .ra) (a := .opn) (y := .po) (b := .put) c c2 (by unfold PTS; simp)))
        · rw [decide_eq_false c2]
          refine iteF ⟨_, rfl, t, _, rfl, gd .pa s4, rfl, _, rfl, ?_⟩
          rw [ds]
          by_cases c3 : f En.pa.s = "skip"
          · rw [decide_eq_true c3]
            exact iteT (no _ s4 (pt_two (x := .ra) (a := .opn) (y := .pa) (b := .skip) c c3 (by unfold PTS; simp)))
          · rw [decide_eq_false c3]
            exact iteF ⟨rfl, s4, fun z => z.2.elim c2 c3⟩
      · rw [decide_eq_false c]
        exact iteF ⟨rfl, s4, fun z => c z.1⟩
    rintro τ H5 ⟨rfl, s5, h2⟩
    refine ⟨_, rfl, t, _, rfl, gd .rl s5, _, rfl, t, _, rfl, gd .ru s5, two, fun N nN => ⟨N, _, rfl, .inl (SqL.of upd_same), rfl, rfl, ?_⟩⟩
    have s6 := same_new (o := .lst [V.str (f En.rl.s), V.str (f En.ru.s)]) s5 nN
    rw [if_neg (fun z => by cases z), show inV (V.str "old") [V.str (f En.rl.s), V.str (f En.ru.s)] = decide (("old" : Str) ∈ [f En.rl.s, f En.ru.s]) from inV_str "old" [f En.rl.s, f En.ru.s]]
    generalize upd H5 N (.lst [V.str (f En.rl.s), V.str (f En.ru.s)]) = H6 at s6 ⊢
    have three : 3 ≤ sizeLine := by decide
    refine ⟨_, rfl, t, _, rfl, gd .wl s6, _, rfl, t, _, rfl, gd .wu s6, _, rfl, t, _, rfl, gd .wb s6, three, fun M nM => ⟨_, rfl, ?_⟩⟩
    have s7 := same_new (o := .lst [V.str (f En.wl.s), V.str (f En.wu.s), V.str (f En.wb.s)]) s6 nM
    have yes : ∀ (H' : Hp), Same H H' → ¬ (1 < k ∧ (f "read late" = "old" ∨ f "read under" = "old") ∧ (f "write late" = "skip" ∨ f "write under" = "skip" ∨ f "write below" = "skip")) → Q (.bl true) H' := fun H' s h3 => kk H' true s ⟨fun z => (by cases z), fun z => absurd z (no_pt hE h1 h2 h3)⟩
    have o1 : ("old" : Str) ∈ [f En.rl.s, f En.ru.s] ↔ (f "read late" = "old" ∨ f "read under" = "old") := by
      constructor
      · intro z
        rcases List.mem_cons.mp z with z | z
        · exact .inl z.symm
        · exact .inr (List.mem_singleton.mp z).symm
      · rintro (z | z)
        · exact List.mem_cons.mpr (.inl z.symm)
        · exact List.mem_cons.mpr (.inr (List.mem_singleton.mpr z.symm))
    have o2 : ("skip" : Str) ∈ [f En.wl.s, f En.wu.s, f En.wb.s] ↔ (f "write late" = "skip" ∨ f "write under" = "skip" ∨ f "write below" = "skip") := by
      constructor
      · intro z
        rcases List.mem_cons.mp z with z | z
        · exact .inl z.symm
        · rcases List.mem_cons.mp z with z | z
          · exact .inr (.inl z.symm)
          · exact .inr (.inr (List.mem_singleton.mp z).symm)
      · rintro (z | z | z)
        · exact List.mem_cons.mpr (.inl z.symm)
        · exact List.mem_cons.mpr (.inr (List.mem_cons.mpr (.inl z.symm)))
        · exact List.mem_cons.mpr (.inr (List.mem_cons.mpr (.inr (List.mem_singleton.mpr z.symm))))
    refine ⟨_, _, rfl, rfl, _, rfl, ?_⟩
    by_cases k1 : 1 < k
    · rw [decide_eq_true (show (1 : Int) < (k : Int) by omega)]
      refine iteT ⟨_, rfl, _, rfl, ?_⟩
      by_cases c1 : ("old" : Str) ∈ [f En.rl.s, f En.ru.s]
      · rw [decide_eq_true c1]
        refine iteT ⟨_, rfl, M, _, rfl, .inl (SqL.of upd_same), rfl, rfl, ?_⟩
        rw [if_neg (fun z => by cases z), show inV (V.str "skip") [V.str (f En.wl.s), V.str (f En.wu.s), V.str (f En.wb.s)] = decide (("skip" : Str) ∈ [f En.wl.s, f En.wu.s, f En.wb.s]) from inV_str "skip" [f En.wl.s, f En.wu.s, f En.wb.s]]
        refine ⟨_, rfl, ?_⟩
        by_cases c2 : ("skip" : Str) ∈ [f En.wl.s, f En.wu.s, f En.wb.s]
        · rw [decide_eq_true c2]
          exact no _ s7 (pt_six k1 (o1.mp c1) (o2.mp c2))
        · rw [decide_eq_false c2]
          exact yes _ s7 fun z => c2 (o2.mpr z.2.2)
      · rw [decide_eq_false c1]
        exact iteF ⟨_, rfl, yes _ s7 fun z => c1 (o1.mpr z.2.1)⟩
    · rw [decide_eq_false (show ¬ (1 : Int) < (k : Int) by omega)]
      exact iteF ⟨_, rfl, yes _ s7 fun z => k1 z.1⟩
end
end K27

namespace K27
open PySem L2 SI CM BK OWN MIR StX TX TL
section
variable {w : World} {K : PySem.W.Frag} {mg : Str → Option Value} {base : Heap} (T : Txt w K mg)
def spLaw (K : PySem.W.Frag) : Sp := fun vs H Q _ => ∃ (a : Addr) (ns : List Int), vs = [.ref a] ∧ SqL K H a (ns.map V.int) ∧ ns.length ≤ 63 ∧ ∀ H', Q (.bl true) H'
theorem ok_law : FnOk PP w K mg base CX0 30 T.f_law T.d_law ["_law_script"] (spLaw K) := by
  refine T.F_law.ok sc_law (fun vs H Q E h => ?_) (fun cdv A outer s H vs Q E hr h => ?_)
  · obtain ⟨a, ns, rfl, _⟩ := h
    rfl
  · obtain ⟨a, ns, rfl, hS, hlen, kk⟩ := h
    obtain ⟨g_kbEK, hkbEK⟩ := kbEK T
    refine ⟨_, pss_cons (ps_set (i := 1) sc_law.nd rfl (.inl rfl) (pe_call (ok_terms T) (hr.mono (by decide)) (by rfl) T.g_law_terms T.F_law_terms.kp (b_law_terms T) .nil pass0 (pa_cons (pv 0) pa_nil)))
 (pss_cons (ps_set (i := 2) sc_law.nd rfl (.inl rfl) (pe_ix ix_list (pe_call0 (ok_entries T) (hr.mono (by decide)) (by rfl) T.g_law_entries T.F_law_entries.kp (b_law_entries T) .nil pass0) (pe_op op_mod (pe_callTy call_int1 (by rfl) T.n_int (by decide +kernel) (pa_cons (pe_call (ok_cell T) (hr.mono (by decide)) (by rfl) T.g_law_cell T.F_law_cell.kp (b_law_cell T) .nil pass0 (pa_cons (pv 0) (pa_cons pe_int pa_nil))) pa_nil)) pe_int) (fun _ _ => rfl)))
 (pss_cons (ps_set (i := 3) sc_law.nd rfl (.inl rfl) (pe_call (ok_choices T) (hr.mono (by decide)) (by rfl) T.g_law_choices T.F_law_choices.kp (b_law_choices T) .nil pass0 (pa_cons (pv 2) pa_nil)))
 (pss_cons (ps_set (i := 4) sc_law.nd rfl (.inl rfl) (pe_callTy call_dictD (by rfl) T.n_dict (by decide +kernel) (pa_cons (pe_ix ix_tup (pv 1) pe_int (fun _ _ => rfl)) pa_nil)))
 (pss_cons (ps_dput (hu_of hr) (pv 4) (pv 2) (pe_ix ix_list (pv 3) (pe_op op_mod (pe_callTy call_int1 (by rfl) T.n_int (by decide +kernel) (pa_cons (pe_op op_fdiv (pe_call (ok_cell T) (hr.mono (by decide)) (by rfl) T.g_law_cell T.F_law_cell.kp (b_law_cell T) .nil pass0 (pa_cons (pv 0) (pa_cons pe_int pa_nil))) pe_int) pa_nil)) (pe_callB call_len_seq (by rfl) T.n_len PySem.boot_len (pa_cons (pv 3) pa_nil))) (fun _ _ => rfl)) rfl)
 (pss_cons (ps_set (i := 5) sc_law.nd rfl (.inl rfl) (pe_ix ix_list (pe_lst (pa_cons pe_str (pa_cons pe_str pa_nil))) (pe_op op_mod (pe_callTy call_int1 (by rfl) T.n_int (by decide +kernel) (pa_cons (pe_call (ok_cell T) (hr.mono (by decide)) (by rfl) T.g_law_cell T.F_law_cell.kp (b_law_cell T) .nil pass0 (pa_cons (pv 0) (pa_cons pe_int pa_nil))) pa_nil)) pe_int) (fun _ _ => rfl)))
 (pss_cons (ps_set (i := 6) sc_law.nd rfl (.inl rfl) (pe_op op_add pe_int (pe_op op_mod (pe_callTy call_int1 (by rfl) T.n_int (by decide +kernel) (pa_cons (pe_op op_fdiv (pe_call (ok_cell T) (hr.mono (by decide)) (by rfl) T.g_law_cell T.F_law_cell.kp (b_law_cell T) .nil pass0 (pa_cons (pv 0) (pa_cons pe_int pa_nil))) pe_int) pa_nil)) pe_int)))
 (pss_cons (ps_set (i := 7) sc_law.nd rfl (.inl rfl) (pe_lst (pa_cons (pv 1) (pa_cons (pe_tup (pa_cons (pv 4) (pa_cons (pe_ix ix_tup (pv 1) pe_int (fun _ _ => rfl)) (pa_cons (pe_ix ix_tup (pv 1) pe_int (fun _ _ => rfl)) pa_nil)))) (pa_cons (pe_tup (pa_cons (pe_ix ix_tup (pv 1) pe_int (fun _ _ => rfl)) (pa_cons (pv 5) (pa_cons (pv 6) pa_nil)))) (pa_cons (pe_tup (pa_cons (pv 4) (pa_cons (pv 5) (pa_cons pe_int pa_nil)))) pa_nil))))))
 (pss_cons (ps_for PassesOwn.never rfl (pi_list (pv 7)) (pg_name (i := 8) sc_law.nd rfl (.inl rfl))
 (pss_cons (ps_set (i := 9) sc_law.nd rfl (.inl rfl) (pe_call (ok_erring T) (hr.mono (by decide)) (by rfl) T.g_erring T.F_erring.kp (b_erring T) .nil passL (pa_cons (pe_makeK (n := 1) T.mk_Book (ok_Book_init T) (hr.mono (by decide)) (by rfl) T.g_Book hkbEK passL (pa_cons (pe_ix ix_tup (pv 8) pe_int (fun _ _ => rfl)) pa_nil) (pk_cons (pe_ix ix_tup (pv 8) pe_int (fun _ _ => rfl)) (pk_cons (pe_ix ix_tup (pv 8) pe_int (fun _ _ => rfl)) pk_nil))) pa_nil)))
 (pss_one (ps_if (pt_cmpR op_ne (pe_cmpR op_isN (pv 9) pe_non (nomark _)) (pe_call (ok_clean T) (hr.mono (by decide)) (by rfl) T.g_law_clean T.F_law_clean.kp (b_law_clean T) .nil pass0 (pa_cons (pe_ix ix_tup (pv 8) pe_int (fun _ _ => rfl)) (pa_cons (pe_ix ix_tup (pv 8) pe_int (fun _ _ => rfl)) (pa_cons (pe_ix ix_tup (pv 8) pe_int (fun _ _ => rfl)) pa_nil)))) (nomark _))
 (pss_one (ps_ret pe_bl))
 pss_nil))))
 (pss_one (ps_ret pe_bl)))))))))), ?_⟩
    refine ⟨_, rfl, a, ns, rfl, hS, hlen, fun H1 p t f r k s1 np nt ht0 => ?_⟩
    have p2 : (0 : Int) < 2 := by decide
    have p14 : (0 : Int) < 14 := by decide
    have p20 : (0 : Int) < 20 := by decide
    have two : 2 ≤ sizeLine := by decide
    have three : 3 ≤ sizeLine := by decide
    have four : 4 ≤ sizeLine := by decide
    refine ⟨rfl, fun H2 N s2 nN hN => ?_⟩
    have m4 := Int.emod_nonneg (ns.getD 2 0) (Int.ne_of_gt p14)
    have m5 := Int.emod_lt_of_pos (ns.getD 2 0) p14
    obtain ⟨e, he, eE⟩ : ∃ e : Str, atI (ENT.map V.str) (ns.getD 2 0 % 14) = some (.str e) ∧ e ∈ ENT := by
      obtain ⟨j, hj⟩ := Int.eq_ofNat_of_zero_le m4
      have hj2 : j < ENT.length := by rw [ent_len]; omega
      rw [hj]
      exact ⟨ENT[j], atI_nat (by rw [List.getElem?_map, List.getElem?_eq_getElem hj2]; rfl), List.getElem_mem hj2⟩
    refine ⟨_, rfl, a, ns, 2, rfl, (s1.trans s2).seq hS, hlen, .inl ⟨_, rfl, _, _, rfl, rfl, p14, N, _, _, _, rfl, rfl, SqL.of hN, he, ?_⟩⟩
    refine ⟨_, rfl, _, rfl, fun H3 P s3 nP hP => ?_⟩
    have s13 := s2.trans s3
    have ht3 := ht0.same s13
    refine ⟨_, rfl, p, _, _, .ref t, rfl, rfl, SqT.of ht3.1, rfl, ?_⟩
    refine ⟨t, _, rfl, .inl ht3.2.1, fun D nD => ?_⟩
    have hD : (upd H3 D (.dK (tabS ENT f))) D = some (.dK (tabS ENT f)) := upd_same
    have s4 : Same H3 (upd H3 D (.dK (tabS ENT f))) := same_new (Same.refl H3) nD
    have ntD : t ≠ D := fun z => by have w := ht3.2.1; rw [z, nD] at w; cases w
    generalize upd H3 D (.dK (tabS ENT f)) = H4 at hD s4 ⊢
    have cl := chs_len e
    have pg : (0 : Int) < (((chs e).map V.str).length : Nat) := by rw [List.length_map]; omega
    have m6 := Int.emod_nonneg (ns.getD 2 0 / 14) (Int.ne_of_gt pg)
    have m7 := Int.emod_lt_of_pos (ns.getD 2 0 / 14) pg
    obtain ⟨g, eg, hg⟩ : ∃ g : Str, atI ((chs e).map V.str) (ns.getD 2 0 / 14 % ((((chs e).map V.str).length : Nat) : Int)) = some (.str g) ∧ g ∈ chs e := by
      obtain ⟨j, hj⟩ := Int.eq_ofNat_of_zero_le m6
      have hj2 : j < (chs e).length := by rw [hj, List.length_map] at m7; omega
      rw [hj]
      exact ⟨(chs e)[j], atI_nat (by rw [List.getElem?_map, List.getElem?_eq_getElem hj2]; rfl), List.getElem_mem hj2⟩
    have s14 := (s1.trans s13).trans s4
    have hP4 := s4 _ _ hP
    refine ⟨_, rfl, _, rfl, a, ns, 2, rfl, s14.seq hS, hlen, _, _, rfl, rfl, ⟨by decide, by decide⟩, .inl ⟨_, rfl, _, rfl, P, _, rfl, .inl (SqL.of hP4), _, _, rfl, rfl, pg, P, _, _, _, rfl, rfl, SqL.of hP4, eg, ?_⟩⟩
    refine ⟨_, rfl, _, rfl, D, _, rfl, DPut.k (k := Sum.inr e) hD (by rw [tab_len]; exact small1000 (by decide)), ?_⟩
    rw [put_in (g := V.str) eE]
    have ht4 := ht3.same s4
    have a5 : ∀ b o, b ≠ D → H4 b = some o → (upd H4 D (.dK (tabS ENT (put f e g)))) b = some o := fun b o hb z => by rw [upd_ne hb]; exact z
    have hD5 : (upd H4 D (.dK (tabS ENT (put f e g)))) D = some (.dK (tabS ENT (put f e g))) := upd_same
    have npD : p ≠ D := fun z => by have w := ht3.1; rw [z, nD] at w; cases w
    have ht5 : TermsAt (upd H4 D (.dK (tabS ENT (put f e g)))) p t f r k := ⟨a5 _ _ npD ht4.1, a5 _ _ ntD ht4.2.1, ht4.2.2⟩
    have hS5 : SqL K (upd H4 D (.dK (tabS ENT (put f e g)))) a (ns.map V.int) := sq_butD ((s1.trans s13).seq hS) nD fun b o hb z => a5 b o hb (s4 _ _ z)
    generalize upd H4 D (.dK (tabS ENT (put f e g))) = H5 at a5 hD5 ht5 hS5 ⊢
    have hf5 := ht5.2.2.1
    have hfg : ∀ x ∈ ENT, put f e g x ∈ chs x := fun e' he' => by
      by_cases q : e' = e
      · rw [q, put_same]; exact hg
      · rw [put_ne q]; exact hf5.an e' he'
    -- the rule
    refine ⟨two, fun R nR => ?_⟩
    have hR : (upd H5 R (.lst [.str "now", .str "after"])) R = some (.lst [.str "now", .str "after"]) := upd_same
    have s6 := same_new (o := .lst [.str "now", .str "after"]) (Same.refl H5) nR
    generalize upd H5 R (.lst [.str "now", .str "after"]) = H6 at hR s6 ⊢
    have hS6 := s6.seq hS5
    have ht6 := ht5.same s6
    have m0 := Int.emod_nonneg (ns.getD 3 0) (Int.ne_of_gt p2)
    have m1 := Int.emod_lt_of_pos (ns.getD 3 0) p2
    have m2 := Int.emod_nonneg (ns.getD 3 0 / 2) (Int.ne_of_gt p20)
    have m3 := Int.emod_lt_of_pos (ns.getD 3 0 / 2) p20
    obtain ⟨r2, er, hr2⟩ : ∃ r : Str, atI [V.str "now", V.str "after"] (ns.getD 3 0 % 2) = some (.str r) ∧ isEnds (.str r) := by
      obtain ⟨j, hj⟩ := Int.eq_ofNat_of_zero_le m0
      rw [hj]
      match j, (show j < 2 by omega) with
      | 0, _ => exact ⟨_, rfl, .inl rfl⟩
      | 1, _ => exact ⟨_, rfl, .inr rfl⟩
    obtain ⟨q, hq⟩ := Int.eq_ofNat_of_zero_le m2
    refine ⟨_, rfl, a, ns, 3, rfl, hS6, hlen, .inl ⟨_, rfl, _, _, rfl, rfl, p2, R, _, _, .str r2, rfl, rfl, SqL.of hR, er, ?_⟩⟩
    refine ⟨_, rfl, a, ns, 3, rfl, hS6, hlen, _, _, rfl, rfl, ⟨by decide, by decide⟩, .inl ⟨_, rfl, _, _, rfl, rfl, p20, _, _, rfl, rfl, ?_⟩⟩
    refine ⟨_, rfl, ?_⟩
    refine ⟨_, rfl, _, rfl, p, _, _, .str r, rfl, rfl, SqT.of ht6.1, rfl, _, rfl, p, _, _, .int (k : Int), rfl, rfl, SqT.of ht6.1, rfl, three, fun O1 nO1 => ?_⟩
    have h1 : (upd H6 O1 (.tup [.ref D, .str r, .int (k : Int)])) O1 = some (.tup [.ref D, .str r, .int (k : Int)]) := upd_same
    have s7 := same_new (o := .tup [.ref D, .str r, .int (k : Int)]) (Same.refl H6) nO1
    generalize upd H6 O1 (.tup [.ref D, .str r, .int (k : Int)]) = H7 at h1 s7 ⊢
    have ht7 := ht6.same s7
    refine ⟨_, rfl, p, _, _, .ref t, rfl, rfl, SqT.of ht7.1, rfl, _, rfl, _, rfl, three, fun O2 nO2 => ?_⟩
    have eO : V.int (1 + ns.getD 3 0 / 2 % 20) = V.int ((1 + q : Nat) : Int) := by rw [hq]; rfl
    have hO0 : ∀ v, v = V.int (1 + ns.getD 3 0 / 2 % 20) → (upd H7 O2 (.tup [.ref t, .str r2, v])) O2 = some (.tup [.ref t, .str r2, .int ((1 + q : Nat) : Int)]) := fun v hv => by rw [hv, eO]; exact upd_same
    have h2 := hO0 _ rfl
    have s8 := same_new (o := .tup [.ref t, .str r2, V.int (1 + ns.getD 3 0 / 2 % 20)]) (Same.refl H7) nO2
    refine ⟨_, rfl, _, rfl, three, fun O3 nO3 => ?_⟩
    have h3 : (upd (upd H7 O2 (.tup [.ref t, .str r2, V.int (1 + ns.getD 3 0 / 2 % 20)])) O3 (.tup [.ref D, .str r2, .int 2])) O3 = some (.tup [.ref D, .str r2, .int ((2 : Nat) : Int)]) := upd_same
    have s9 := same_new (o := .tup [.ref D, .str r2, .int 2]) s8 nO3
    have h2 := (same_new (o := .tup [.ref D, .str r2, .int 2]) (Same.refl _) nO3) _ _ h2
    refine ⟨four, fun L nL => ⟨_, rfl, L, rfl, ⟨_, SqL.of upd_same⟩, ?_⟩⟩
    have hL : ∀ {Ha : Hp}, (upd Ha L (.lst [V.ref p, .ref O1, .ref O2, .ref O3])) L = some (.lst [V.ref p, .ref O1, .ref O2, .ref O3]) := upd_same
    have s10 := same_new (o := .lst [V.ref p, .ref O1, .ref O2, .ref O3]) (Same.refl _) nL
    have hL := hL (Ha := upd (upd H7 O2 (.tup [.ref t, .str r2, V.int (1 + ns.getD 3 0 / 2 % 20)])) O3 (.tup [.ref D, .str r2, .int 2]))
    have ht9 := (ht7.same s9).same s10
    have hD9 := s10 _ _ (s9 _ _ (s7 _ _ (s6 _ _ hD5)))
    have h1 := s10 _ _ (s9 _ _ h1)
    have h2 := s10 _ _ h2
    have h3 := s10 _ _ h3
    generalize upd (upd (upd H7 O2 (.tup [.ref t, .str r2, V.int (1 + ns.getD 3 0 / 2 % 20)])) O3 (.tup [.ref D, .str r2, .int 2])) L (.lst [V.ref p, .ref O1, .ref O2, .ref O3]) = H8 at hL ht9 hD9 h1 h2 h3 ⊢
    clear s10 s9 s8 s7 s6 ht7 ht6 hS6
    have kv : ∀ m : Nat, 1 ≤ m → m ≤ 20 → keepV (.int (m : Int)) = true := fun m a b => by
      show (decide ((1 : Int) ≤ (m : Int)) && decide ((m : Int) ≤ 20)) = true
      rw [decide_eq_true (by omega), decide_eq_true (by omega)]; rfl
    have all4 : ∀ x ∈ [V.ref p, .ref O1, .ref O2, .ref O3], ∃ (P : Addr) (t : Addr) (f : Str → Str) (r : Str) (k : Nat), x = V.ref P ∧ TermsAt H8 P t f r k := by
      intro x hx
      simp only [List.mem_cons, List.not_mem_nil, or_false] at hx
      rcases hx with rfl | rfl | rfl | rfl
      · exact ⟨p, t, f, r, k, rfl, ht9⟩
      · exact ⟨O1, D, put f e g, r, k, rfl, h1, hD9, ⟨hf5.en, hf5.kp, hfg⟩, ht9.2.2.2⟩
      · exact ⟨O2, t, f, r2, 1 + q, rfl, h2, ht9.2.1, ⟨hr2, kv _ (by omega) (by omega), hf5.an⟩, by omega, by omega⟩
      · exact ⟨O3, D, put f e g, r2, 2, rfl, h3, hD9, ⟨hr2, kv _ (by omega) (by omega), hfg⟩, by omega, by omega⟩
    refine for_list (K := K) (xs := [V.ref p, .ref O1, .ref O2, .ref O3]) (fun i τ H' => ∃ v8 v9, τ = [some (.ref a), some (.ref p), some (.str e), some (.ref P), some (.ref D), some (.str r2), some (.int ((1 + q : Nat) : Int)), some (.ref L), v8, v9] ∧ Same H8 H')
      ⟨none, none, by rw [← eO]; rfl, Same.refl _⟩ (fun i τ H' _ ⟨_, _, _, z⟩ => SqL.of (z _ _ hL)) ?_ (fun τ H' _ => kk H')
    rintro i x τ H9 hx ⟨v8, v9, rfl, s9⟩
    obtain ⟨Q1, t1, f1, r1, k1, rfl, hT⟩ := all4 x (List.mem_of_getElem? hx)
    have hT := hT.same s9
    have G := hT.2.2.1
    have kq1 := hT.2.2.2.1
    have kq20 := hT.2.2.2.2
    have hG : isEnds (.str r1) := G.en
    refine ⟨_, rfl, Q1, _, _, .ref t1, rfl, rfl, SqT.of hT.1, rfl, _, rfl, Q1, _, _, .str r1, rfl, rfl, SqT.of hT.1, rfl, _, rfl, Q1, _, _, .int (k1 : Int), rfl, rfl, SqT.of hT.1, rfl, rfl, rfl, fun b dx nb ndx _ => mk_book (gv := ENT.map fun e => (e, V.str (f1 e))) (.inr ⟨t1, rfl, by rw [← tabS_prs]; exact hT.2.1⟩) G.en G.kp (ok_tab G.an) nb ndx fun H2 d s2 nd B => ⟨rfl, ?_⟩⟩
    have B := Bk.congr B (f' := f1) fun x hx => by rw [fill_tab ent_nodup, if_pos hx]
    have hT2 := hT.same s2
    have cut : ∀ (v : V) (H3 : Hp), Same H2 H3 → ((v = .non) ↔ ∀ L ∈ FR, ¬ HasF ⟨f1, r1, k1⟩ L) → ∀ (H4 : Hp) (c : Bool), Same H3 H4 → (c = false ↔ ∃ P ∈ PTS, P.In ⟨f1, r1, k1⟩) → decide (v = .non) = c := by
      intro v H3 _ hv H4 c _ hc
      have E := errs_iff (B := ⟨f1, r1, k1⟩) G.an hG kq1
      cases c with
      | true =>
        refine decide_eq_true (hv.mpr fun L hL hF => ?_)
        have := hc.mpr (E.mp ⟨L, hL, hF⟩)
        cases this
      | false =>
        refine decide_eq_false fun z => ?_
        obtain ⟨L, hL, hF⟩ := E.mpr (hc.mp rfl)
        exact hv.mp z L hL hF
    refine ⟨b, dx, d, f1, r1, k1, rfl, B, G.an, kq1, kq20, fun hno H3 s3 => ?_, fun i L i1 i2 i3 H3 q s3 hq => ?_⟩
    · have hT3 := hT2.same s3
      refine ⟨_, rfl, rfl, _, rfl, Q1, _, _, .ref t1, rfl, rfl, SqT.of hT3.1, rfl, _, rfl, Q1, _, _, .str r1, rfl, rfl, SqT.of hT3.1, rfl, _, rfl, Q1, _, _, .int (k1 : Int), rfl, rfl, SqT.of hT3.1, rfl, t1, f1, r1, k1, rfl, hT3.2.1, G.an, fun H4 c s4 hc => ⟨rfl, _, rfl, ?_⟩⟩
      rw [cut .non H3 s3 ⟨fun _ => hno, fun _ => rfl⟩ H4 c s4 hc, decide_eq_true (rfl : V.bl c = V.bl c)]
      exact iteF ⟨_, _, rfl, s9.trans (s2.trans (s3.trans s4))⟩
    · have hT3 := hT2.same s3
      refine ⟨_, rfl, rfl, _, rfl, Q1, _, _, .ref t1, rfl, rfl, SqT.of hT3.1, rfl, _, rfl, Q1, _, _, .str r1, rfl, rfl, SqT.of hT3.1, rfl, _, rfl, Q1, _, _, .int (k1 : Int), rfl, rfl, SqT.of hT3.1, rfl, t1, f1, r1, k1, rfl, hT3.2.1, G.an, fun H4 c s4 hc => ⟨rfl, _, rfl, ?_⟩⟩
      rw [cut (.ref q) H3 s3 ⟨fun z => (by cases z), fun z => absurd i2 (z L (List.mem_of_getElem? i1))⟩ H4 c s4 hc, decide_eq_true (rfl : V.bl c = V.bl c)]
      exact iteF ⟨_, _, rfl, s9.trans (s2.trans (s3.trans s4))⟩
end
end K27

namespace K27
open PySem L2
theorem walk {l : PySem.W.OpenLaw} {q : Program} {loose : List Str} {XP : (Str → Option Value) → Heap → Prop} {YP : World → Heap → Prop} {d : DefRec} {K : Params → PySem.W.Frag} (hn : l.most = some 63) (hdf : d.params.defaults = [])
    (hY : ∀ (w : World) (h : Heap), YP w h → (K w.params).In h)
    (F : ∀ (w : World) (mg : Str → Option Value) (fa : Addr) (h : Heap), (K w.params).In h → h.Ns mainGlobals mg → mg d.name = some (.ref fa) →
      ∃ fd : FuncData, (∀ (s : Shared) (u : Value), BindsTo s fd ⟨[u], []⟩ [("_law_script", u)]) ∧ ∀ base : Heap, (K w.params).In base → base.Ns mainGlobals mg → FnOk l.prog w (K w.params) mg base CX0 30 fa fd ["_law_script"] (spLaw (K w.params))) :
    PySem.W.WalkO q loose XP YP l.row.toRowW d [] (fun f vs => PySem.call f vs) :=
  L2.walk_of (n := 63) (k := 30) (x := "_law_script") (CX := fun _ => CX0) (sp := fun w => spLaw (K w.params)) hn (by decide) hdf ⟨rfl, by decide, by decide⟩ hY F (fun _ _ a ns hl _ hS => ⟨a, ns, rfl, hS, hl, fun _ => rfl⟩) fun _ _ _ _ _ z => z
theorem law_fd {w : World} {K : PySem.W.Frag} {mg : Str → Option Value} (T : Txt w K mg) : ∀ (s : Shared) (u : Value), BindsTo s T.d_law ⟨[u], []⟩ [("_law_script", u)] := by
  obtain ⟨⟨oc, od, kV, doc, pm, an, cdv, ct, osl, e, lk, hcd⟩, _⟩ := T.F_law
  rw [e]
  exact fun s u => .of_eq rfl
theorem fin {w : World} {K : PySem.W.Frag} {mg : Str → Option Value} {fa : Addr} (A : ∃ T : Txt w K mg, T.f_law = fa) : ∃ fd : FuncData, (∀ (s : Shared) (u : Value), BindsTo s fd ⟨[u], []⟩ [("_law_script", u)]) ∧ ∀ base : Heap, K.In base → base.Ns mainGlobals mg →
    FnOk PySem.Challenge.rw_stamprules_k27_whole_closed_table.prog w K mg base CX0 30 fa fd ["_law_script"] (spLaw K) := by
  obtain ⟨T, e⟩ := A
  subst e
  exact ⟨T.d_law, law_fd T, fun base _ _ => ok_law T⟩
end K27
namespace K27
open PySem PySem.W PySem.Calls PyProof.Rows
abbrev hdR : OpenRow := (PySem.W.OpenLaw.row PySem.Challenge.rw_stamprules_k27_whole_closed_table)
local macro_rules
  | `(tactic| o_head $_) => `(tactic| assumption)
set_option maxHeartbeats 0 in
theorem hd_k (h : hdR.Holds) : hdR.Holds := by k_head
abbrev hdQ : Program := view hdR.prog [89]
def hdN0 : List PySem.Str := ["_wall", "StampError", "BadEntry", "BadAnswer", "BadSetting", "BadStep", "GREATEST", "is_stamp", "place", "Item", "State", "first_state", "item_of", "ascending", "taken", "committed", "settled", "aborted", "without", "falling", "released", "requested", "asked", "entry_met", "fixed_answer", "older_values", "value_read", "binds", "with_bond", "with_reader"]
def hdN1 : List PySem.Str := ["with_item", "DIGITS", "SIGNS", "LONGEST_NAME", "MOST_DIGITS", "LET_BY", "WORDS", "play", "fault", "lets_by", "traced", "is_serial", "requests_granted", "check_run", "is_step", "is_name", "steps_of", "is_numeral", "WAYS", "FAULTS_BEHIND", "FAULTS", "MOST_COMMITS", "fault_runs", "parting_runs", "parting_run", "shortest_first", "followed", "ways", "deep", "ENTRIES"]
def hdN2 : List PySem.Str := ["ANSWERS", "LEVELS", "MOST_KEPT", "answers_at", "level_of", "check_answer", "is_keep", "met_answer", "Book", "erring", "first_that", "has_fault", "_law_cell", "_law_row", "_law_entries", "_law_choices", "_law_table", "_law_fits", "_law_sound", "_law_terms", "_law_clean"]
def hdN : List PySem.Str := hdN0 ++ hdN1 ++ hdN2
def hdA0 : List Addr := [2, 3, 15, 17, 18, 20, 21, 22, 29, 30, 31, 32, 35, 38, 43, 44, 46, 47, 49, 50, 51, 52, 53, 56, 59, 64, 65, 67, 68, 70, 71, 72, 73, 74, 77, 80, 85, 86, 88, 89]
def hdA1 : List Addr := [91, 92, 93, 94, 95, 98, 101, 106, 107, 109, 110, 112, 113, 114, 115, 116, 119, 120, 122, 123, 125, 126, 127, 129, 130, 132, 133, 141, 143, 144, 146, 147, 148, 149, 150, 151, 152, 162, 164, 165]
def hdA2 : List Addr := [167, 168, 169, 170, 171, 172, 173, 176, 178, 179, 181, 182, 183, 185, 186, 188, 189, 190, 193, 194, 195, 197, 198, 200, 201, 202, 205, 206, 207, 209, 210, 212, 213, 214, 216, 217, 219, 220, 221, 224]
def hdA3 : List Addr := [225, 226, 228, 229, 231, 232, 233, 235, 236, 238, 239, 240, 242, 243, 245, 246, 247, 249, 250, 252, 253, 254, 256, 257, 259, 260, 261, 263, 264, 266, 267, 268, 271, 272, 273, 275, 276, 278, 279, 280]
def hdA4 : List Addr := [282, 283, 285, 286, 287, 289, 290, 292, 293, 294, 296, 297, 299, 300, 301, 303, 304, 306, 307, 308, 309, 310, 313, 314, 315, 318, 319, 320, 323, 324, 325, 327, 328, 330, 331, 332, 335, 336, 337, 339]
def hdA5 : List Addr := [340, 342, 343, 344, 346, 347, 349, 350, 351, 353, 354, 356, 357, 358, 361, 362, 363, 364, 366, 367, 369, 370, 371, 374, 375, 376, 377, 378, 379, 380, 381, 382, 383, 384, 385, 386, 387, 388, 389, 390]
def hdA6 : List Addr := [391, 392, 393, 395, 396, 398, 399, 400, 402, 403, 405, 406, 407, 409, 410, 412, 413, 414, 417, 418, 419, 422, 423, 424, 427, 428, 429, 431, 432, 434, 435, 436, 437, 438, 439, 440, 441, 442, 443, 444]
def hdA7 : List Addr := [445, 446, 447, 448, 449, 450, 451, 452, 453, 455, 456, 458, 459, 460, 462, 463, 465, 466, 467, 469, 470, 472, 473, 474, 476, 477, 479, 480, 481, 483, 484, 486, 487, 495, 496, 497, 500, 501, 502, 504]
def hdA8 : List Addr := [505, 507, 508, 509, 510, 512, 513, 515, 516, 517, 518, 520, 521, 523, 524, 525, 527, 528, 530, 531, 532, 534, 535, 537, 538, 539, 541, 542, 544, 545, 546, 547, 549, 550, 552, 553, 554, 556, 557, 559]
def hdA9 : List Addr := [560, 561, 563, 564, 566, 567, 568, 570, 571, 573, 574, 575, 577, 578, 580, 581, 582, 583, 584, 585, 586, 589, 591, 592, 594, 595, 596, 598, 599, 601, 602, 603, 605, 606, 608, 609, 610, 612, 613, 615]
def hdA10 : List Addr := [616, 617, 619, 620, 622, 623, 624, 626, 627, 629, 630, 631, 633, 634, 636, 637, 638, 640, 641, 643, 644, 645, 647, 648, 650, 651, 652, 655, 656, 657, 659, 660, 662, 663, 664, 666, 667, 669, 670, 671]
def hdA11 : List Addr := [673, 674, 676, 677]
def hdA : List Addr := hdA0 ++ (hdA1 ++ (hdA2 ++ (hdA3 ++ (hdA4 ++ (hdA5 ++ (hdA6 ++ (hdA7 ++ (hdA8 ++ (hdA9 ++ (hdA10 ++ (hdA11
)))))))))))
theorem hdE (P : Params) : hdA = (hd_k.heap_1 P).map (·.1) := by kernel_rfl
noncomputable abbrev hdH : Hook := kHook hd_k.heap_1 hdA hdE
noncomputable def hdO (s : SharedT) : hdH.α := List.map (HandSHeadRun.getT s) hdA
theorem hd_obs (s : SharedT) : hdO s = hdH.obs s.abs := by
  show hdA.map (HandSHeadRun.getT s) = hdA.map s.abs.heap.get?
  exact congrFun (congrArg List.map (funext fun a => HandSHeadRun.getT_eq s a)) hdA
theorem hd_f (w : World) : HandSHeadRun.RunEq hdR hdQ hdH hdO 12000 hdN (w.withFollow "special-get-raises" false) := by
  intro os
  kernel_rfl
theorem hd_t (w : World) : HandSHeadRun.RunEq hdR hdQ hdH hdO 12000 hdN (w.withFollow "special-get-raises" true) := by
  intro os
  kernel_rfl
end K27
open PySem PySem.W PyProof.Rows
set_option maxRecDepth 100000 in
set_option maxHeartbeats 0 in
theorem PySem.Challenge.cw_stamprules_k27_whole_closed_table_holds : PySem.Challenge.rw_stamprules_k27_whole_closed_table.Holds := by
  w_on; o_law; refine HandSHeadRun.head_any (r := K27.hdR) (q := K27.hdQ) (H := K27.hdH) (ob := K27.hdO) (M := 12000) (loose := K27.hdN) (kwd := []) K27.hd_obs (by kernel_rfl) (fun s => by kernel_rfl) (byRow2 "special-get-raises" (P := fun w => HandSHeadRun.RunEq K27.hdR K27.hdQ K27.hdH K27.hdO 12000 K27.hdN w) K27.hd_f K27.hd_t) (by rfl) (by rfl) (by rfl) (by rfl) (by first | assumption | decide +kernel) (by decide +kernel) ⟨rfl, rfl, rfl, rfl, rfl, by decide +kernel⟩ ?hw ?hc; (case hw => w_witness2)
  k_fill
  refine K27.walk (l := PySem.Challenge.rw_stamprules_k27_whole_closed_table) rfl rfl (fun w h Y => PySem.W.kIn_of Y) ?F
  case F =>
    intro w mg fa h KX G hmg
    refine' K27.fin (K27.all_mk (w := w) KX G hmg ?z_hn ?z_ht ?gc_StampError ?kc_StampError ?gc_BadEntry ?kc_BadEntry ?gc_BadAnswer ?kc_BadAnswer ?gc_BadSetting ?kc_BadSetting ?gc_BadStep ?kc_BadStep ?gc_Item ?kc_Item ?gc_State ?kc_State ?gc_Book ?kc_Book ?xl_StampError ?sa_StampError ?xb_StampError ?xt_StampError ?ga_StampError ?gg_StampError ?hd_StampError ?ha_StampError ?hm_StampError ?sb_StampError_StampError ?ko_StampError_StampError ?sb_StampError_BadEntry ?ko_StampError_BadEntry ?sb_StampError_BadAnswer ?ko_StampError_BadAnswer ?sb_StampError_BadSetting ?ko_StampError_BadSetting ?sb_StampError_BadStep ?ko_StampError_BadStep ?kv_StampError ?xl_BadEntry ?sa_BadEntry ?xb_BadEntry ?xt_BadEntry ?ga_BadEntry ?gg_BadEntry ?hd_BadEntry ?ha_BadEntry ?hm_BadEntry ?sb_BadEntry_StampError ?ko_BadEntry_StampError ?sb_BadEntry_BadEntry ?ko_BadEntry_BadEntry ?sb_BadEntry_BadAnswer ?ko_BadEntry_BadAnswer ?sb_BadEntry_BadSetting ?ko_BadEntry_BadSetting ?sb_BadEntry_BadStep ?ko_BadEntry_BadStep ?kv_BadEntry ?na_BadEntry_entry ?xl_BadAnswer ?sa_BadAnswer ?xb_BadAnswer ?xt_BadAnswer ?ga_BadAnswer ?gg_BadAnswer ?hd_BadAnswer ?ha_BadAnswer ?hm_BadAnswer ?sb_BadAnswer_StampError ?ko_BadAnswer_StampError ?sb_BadAnswer_BadEntry ?ko_BadAnswer_BadEntry ?sb_BadAnswer_BadAnswer ?ko_BadAnswer_BadAnswer ?sb_BadAnswer_BadSetting ?ko_BadAnswer_BadSetting ?sb_BadAnswer_BadStep ?ko_BadAnswer_BadStep ?kv_BadAnswer ?na_BadAnswer_answer ?na_BadAnswer_entry ?xl_BadSetting ?sa_BadSetting ?xb_BadSetting ?xt_BadSetting ?ga_BadSetting ?gg_BadSetting ?hd_BadSetting ?ha_BadSetting ?hm_BadSetting ?sb_BadSetting_StampError ?ko_BadSetting_StampError ?sb_BadSetting_BadEntry ?ko_BadSetting_BadEntry ?sb_BadSetting_BadAnswer ?ko_BadSetting_BadAnswer ?sb_BadSetting_BadSetting ?ko_BadSetting_BadSetting ?sb_BadSetting_BadStep ?ko_BadSetting_BadStep ?kv_BadSetting ?na_BadSetting_given ?xl_BadStep ?sa_BadStep ?xb_BadStep ?xt_BadStep ?ga_BadStep ?gg_BadStep ?hd_BadStep ?ha_BadStep ?hm_BadStep ?sb_BadStep_StampError ?ko_BadStep_StampError ?sb_BadStep_BadEntry ?ko_BadStep_BadEntry ?sb_BadStep_BadAnswer ?ko_BadStep_BadAnswer ?sb_BadStep_BadSetting ?ko_BadStep_BadSetting ?sb_BadStep_BadStep ?ko_BadStep_BadStep ?kv_BadStep ?na_BadStep_index ?pg_Item ?hd_Item ?po_Item ?sa_Item ?mk_Item ?ha_Item ?hm_Item ?ko_Item ?na_Item_holder ?na_Item_kept ?na_Item_reader ?na_Item_value ?pg_State ?hd_State ?po_State ?sa_State ?mk_State ?ha_State ?hm_State ?ko_State ?na_State_bonds ?na_State_over ?na_State_store ?pg_Book ?hd_Book ?po_Book ?sa_Book ?mk_Book ?ha_Book ?hm_Book ?ko_Book ?na_Book__answers ?na_Book__ends ?na_Book__keep ?a_BadEntry_init ?l_BadEntry_init ?c_BadEntry_init ?cl_BadEntry_init ?cv_BadEntry_init ?cw_BadEntry_init ?cx_BadEntry_init ?tp_BadEntry_init ?su_BadEntry_init ?ve_BadEntry_init ?md_BadEntry_init ?ti_BadEntry_init ?z_th ?z_su ?a_BadAnswer_init ?l_BadAnswer_init ?c_BadAnswer_init ?cl_BadAnswer_init ?cv_BadAnswer_init ?cw_BadAnswer_init ?cx_BadAnswer_init ?tp_BadAnswer_init ?su_BadAnswer_init ?ve_BadAnswer_init ?md_BadAnswer_init ?ti_BadAnswer_init ?a_BadSetting_init ?l_BadSetting_init ?c_BadSetting_init ?cl_BadSetting_init ?cv_BadSetting_init ?cw_BadSetting_init ?cx_BadSetting_init ?tp_BadSetting_init ?su_BadSetting_init ?ve_BadSetting_init ?md_BadSetting_init ?ti_BadSetting_init ?a_BadStep_init ?l_BadStep_init ?c_BadStep_init ?cl_BadStep_init ?cv_BadStep_init ?cw_BadStep_init ?cx_BadStep_init ?tp_BadStep_init ?su_BadStep_init ?ve_BadStep_init ?md_BadStep_init ?ti_BadStep_init ?a_Item_init ?l_Item_init ?c_Item_init ?k_Item_init ?fn_Item_init ?a_State_init ?l_State_init ?c_State_init ?k_State_init ?fn_State_init ?a_Book_init ?l_Book_init ?c_Book_init ?k_Book_init ?kw0_Book_init ?kw1_Book_init ?T1_Book_init ?fn_Book_init ?a_Book_ends ?pg_Book_ends ?pt_Book_ends ?pc_Book_ends ?l_Book_ends ?c_Book_ends ?k_Book_ends ?a_Book_keep ?pg_Book_keep ?pt_Book_keep ?pc_Book_keep ?l_Book_keep ?c_Book_keep ?k_Book_keep ?a_Book_getitem ?l_Book_getitem ?c_Book_getitem ?k_Book_getitem ?fn_Book_getitem ?nd_Book ?fi_Book_getitem ?a_is_stamp ?l_is_stamp ?c_is_stamp ?k_is_stamp ?T1_is_stamp ?a_place ?l_place ?c_place ?k_place ?a_first_state ?l_first_state ?c_first_state ?k_first_state ?a_item_of ?l_item_of ?c_item_of ?k_item_of ?a_ascending ?l_ascending ?c_ascending ?k_ascending ?a_taken ?l_taken ?c_taken ?k_taken ?a_committed ?l_committed ?c_committed ?k_committed ?a_settled ?l_settled ?c_settled ?k_settled ?a_aborted ?l_aborted ?c_aborted ?k_aborted ?a_without ?l_without ?c_without ?k_without ?a_falling ?l_falling ?c_falling ?k_falling ?a_released ?l_released ?c_released ?k_released ?a_requested ?l_requested ?c_requested ?k_requested ?a_asked ?l_asked ?c_asked ?k_asked ?a_entry_met ?l_entry_met ?c_entry_met ?k_entry_met ?a_fixed_answer ?l_fixed_answer ?c_fixed_answer ?k_fixed_answer ?a_older_values ?l_older_values ?c_older_values ?k_older_values ?a_value_read ?l_value_read ?c_value_read ?k_value_read ?a_binds ?l_binds ?c_binds ?k_binds ?a_with_bond ?l_with_bond ?c_with_bond ?k_with_bond ?a_with_reader ?l_with_reader ?c_with_reader ?k_with_reader ?a_with_item ?l_with_item ?c_with_item ?k_with_item ?a_fault ?l_fault ?c_fault ?k_fault ?a_traced ?l_traced ?c_traced ?k_traced ?a_is_serial ?l_is_serial ?c_is_serial ?k_is_serial ?a_requests_granted ?l_requests_granted ?c_requests_granted ?k_requests_granted ?a_check_run ?l_check_run ?c_check_run ?k_check_run ?a_is_step ?l_is_step ?c_is_step ?k_is_step ?a_is_name ?l_is_name ?c_is_name ?k_is_name ?a_steps_of ?l_steps_of ?c_steps_of ?k_steps_of ?T1_steps_of ?a_is_numeral ?l_is_numeral ?c_is_numeral ?k_is_numeral ?a_fault_runs ?l_fault_runs ?c_fault_runs ?k_fault_runs ?a_shortest_first ?l_shortest_first ?c_shortest_first ?k_shortest_first ?a_followed ?l_followed ?c_followed ?k_followed ?a_ways ?l_ways ?c_ways ?k_ways ?a_answers_at ?l_answers_at ?c_answers_at ?k_answers_at ?a_check_answer ?l_check_answer ?c_check_answer ?k_check_answer ?a_is_keep ?l_is_keep ?c_is_keep ?k_is_keep ?a_erring ?l_erring ?c_erring ?k_erring ?a_first_that ?l_first_that ?c_first_that ?k_first_that ?a_has_fault ?l_has_fault ?c_has_fault ?k_has_fault ?a_law_cell ?l_law_cell ?c_law_cell ?k_law_cell ?a_law_row ?l_law_row ?c_law_row ?k_law_row ?a_law_entries ?l_law_entries ?c_law_entries ?k_law_entries ?a_law_choices ?l_law_choices ?c_law_choices ?k_law_choices ?a_law_table ?l_law_table ?c_law_table ?k_law_table ?a_law_fits ?l_law_fits ?c_law_fits ?k_law_fits ?a_law_sound ?l_law_sound ?c_law_sound ?k_law_sound ?a_law_terms ?l_law_terms ?c_law_terms ?k_law_terms ?a_law_clean ?l_law_clean ?c_law_clean ?k_law_clean ?a_law ?l_law ?c_law ?k_law ?gv_GREATEST ?gv_DIGITS ?gv_SIGNS ?gv_LONGEST_NAME ?gv_MOST_DIGITS ?gv_WORDS ?dl_WORDS ?dk_WORDS ?ds_WORDS ?gv_WAYS ?dl_WAYS ?dk_WAYS ?ds_WAYS ?tl_0_WAYS ?tl_1_WAYS ?tl_2_WAYS ?tl_3_WAYS ?tl_4_WAYS ?tl_5_WAYS ?tl_6_WAYS ?tl_7_WAYS ?tl_8_WAYS ?tl_9_WAYS ?tl_10_WAYS ?tl_11_WAYS ?tl_12_WAYS ?tl_13_WAYS ?dn0_WAYS ?dn1_WAYS ?dn2_WAYS ?dn3_WAYS ?dn4_WAYS ?dn5_WAYS ?dn6_WAYS ?dn7_WAYS ?dn8_WAYS ?dn9_WAYS ?dn10_WAYS ?dn11_WAYS ?dn12_WAYS ?dn13_WAYS ?gv_FAULTS_BEHIND ?tl_FAULTS_BEHIND ?gv_FAULTS ?tl_FAULTS ?gv_ENTRIES ?tl_ENTRIES ?gv_ANSWERS ?dl_ANSWERS ?dk_ANSWERS ?ds_ANSWERS ?tl_0_ANSWERS ?tl_1_ANSWERS ?tl_2_ANSWERS ?tl_3_ANSWERS ?tl_4_ANSWERS ?tl_5_ANSWERS ?tl_6_ANSWERS ?tl_7_ANSWERS ?tl_8_ANSWERS ?tl_9_ANSWERS ?tl_10_ANSWERS ?tl_11_ANSWERS ?tl_12_ANSWERS ?tl_13_ANSWERS ?dn0_ANSWERS ?dn1_ANSWERS ?dn2_ANSWERS ?dn3_ANSWERS ?dn4_ANSWERS ?dn5_ANSWERS ?dn6_ANSWERS ?dn7_ANSWERS ?dn8_ANSWERS ?dn9_ANSWERS ?dn10_ANSWERS ?dn11_ANSWERS ?dn12_ANSWERS ?dn13_ANSWERS ?gv_MOST_KEPT ?n_all ?n_bool ?n_dict ?n_enumerate ?n_int ?n_isinstance ?n_len ?n_range ?n_sorted ?n_str ?n_super ?n_tuple ?n_zip)
    (case z_hn => k_is)
    (case z_ht => k_is)
    (case gc_StampError => k_is)
    (case kc_StampError => k_is)
    (case gc_BadEntry => k_is)
    (case kc_BadEntry => k_is)
    (case gc_BadAnswer => k_is)
    (case kc_BadAnswer => k_is)
    (case gc_BadSetting => k_is)
    (case kc_BadSetting => k_is)
    (case gc_BadStep => k_is)
    (case kc_BadStep => k_is)
    (case gc_Item => k_is)
    (case kc_Item => k_is)
    (case gc_State => k_is)
    (case kc_State => k_is)
    (case gc_Book => k_is)
    (case kc_Book => k_is)
    (case xl_StampError => k_is)
    (case sa_StampError => k_is)
    (case xb_StampError => k_is)
    (case xt_StampError => k_is)
    (case ga_StampError => k_is)
    (case gg_StampError => k_is)
    (case hd_StampError => k_is)
    (case ha_StampError => k_is)
    (case hm_StampError => k_is)
    (case sb_StampError_StampError => first | rfl | k_is)
    (case ko_StampError_StampError => first | rfl | k_is)
    (case sb_StampError_BadEntry => first | rfl | k_is)
    (case ko_StampError_BadEntry => first | rfl | k_is)
    (case sb_StampError_BadAnswer => first | rfl | k_is)
    (case ko_StampError_BadAnswer => first | rfl | k_is)
    (case sb_StampError_BadSetting => first | rfl | k_is)
    (case ko_StampError_BadSetting => first | rfl | k_is)
    (case sb_StampError_BadStep => first | rfl | k_is)
    (case ko_StampError_BadStep => first | rfl | k_is)
    (case kv_StampError => first | rfl | k_is)
    (case xl_BadEntry => k_is)
    (case sa_BadEntry => k_is)
    (case xb_BadEntry => k_is)
    (case xt_BadEntry => k_is)
    (case ga_BadEntry => k_is)
    (case gg_BadEntry => k_is)
    (case hd_BadEntry => k_is)
    (case ha_BadEntry => k_is)
    (case hm_BadEntry => k_is)
    (case sb_BadEntry_StampError => first | rfl | k_is)
    (case ko_BadEntry_StampError => first | rfl | k_is)
    (case sb_BadEntry_BadEntry => first | rfl | k_is)
    (case ko_BadEntry_BadEntry => first | rfl | k_is)
    (case sb_BadEntry_BadAnswer => first | rfl | k_is)
    (case ko_BadEntry_BadAnswer => first | rfl | k_is)
    (case sb_BadEntry_BadSetting => first | rfl | k_is)
    (case ko_BadEntry_BadSetting => first | rfl | k_is)
    (case sb_BadEntry_BadStep => first | rfl | k_is)
    (case ko_BadEntry_BadStep => first | rfl | k_is)
    (case kv_BadEntry => first | rfl | k_is)
    (case na_BadEntry_entry => k_is)
    (case xl_BadAnswer => k_is)
    (case sa_BadAnswer => k_is)
    (case xb_BadAnswer => k_is)
    (case xt_BadAnswer => k_is)
    (case ga_BadAnswer => k_is)
    (case gg_BadAnswer => k_is)
    (case hd_BadAnswer => k_is)
    (case ha_BadAnswer => k_is)
    (case hm_BadAnswer => k_is)
    (case sb_BadAnswer_StampError => first | rfl | k_is)
    (case ko_BadAnswer_StampError => first | rfl | k_is)
    (case sb_BadAnswer_BadEntry => first | rfl | k_is)
    (case ko_BadAnswer_BadEntry => first | rfl | k_is)
    (case sb_BadAnswer_BadAnswer => first | rfl | k_is)
    (case ko_BadAnswer_BadAnswer => first | rfl | k_is)
    (case sb_BadAnswer_BadSetting => first | rfl | k_is)
    (case ko_BadAnswer_BadSetting => first | rfl | k_is)
    (case sb_BadAnswer_BadStep => first | rfl | k_is)
    (case ko_BadAnswer_BadStep => first | rfl | k_is)
    (case kv_BadAnswer => first | rfl | k_is)
    (case na_BadAnswer_answer => k_is)
    (case na_BadAnswer_entry => k_is)
    (case xl_BadSetting => k_is)
    (case sa_BadSetting => k_is)
    (case xb_BadSetting => k_is)
    (case xt_BadSetting => k_is)
    (case ga_BadSetting => k_is)
    (case gg_BadSetting => k_is)
    (case hd_BadSetting => k_is)
    (case ha_BadSetting => k_is)
    (case hm_BadSetting => k_is)
    (case sb_BadSetting_StampError => first | rfl | k_is)
    (case ko_BadSetting_StampError => first | rfl | k_is)
    (case sb_BadSetting_BadEntry => first | rfl | k_is)
    (case ko_BadSetting_BadEntry => first | rfl | k_is)
    (case sb_BadSetting_BadAnswer => first | rfl | k_is)
    (case ko_BadSetting_BadAnswer => first | rfl | k_is)
    (case sb_BadSetting_BadSetting => first | rfl | k_is)
    (case ko_BadSetting_BadSetting => first | rfl | k_is)
    (case sb_BadSetting_BadStep => first | rfl | k_is)
    (case ko_BadSetting_BadStep => first | rfl | k_is)
    (case kv_BadSetting => first | rfl | k_is)
    (case na_BadSetting_given => k_is)
    (case xl_BadStep => k_is)
    (case sa_BadStep => k_is)
    (case xb_BadStep => k_is)
    (case xt_BadStep => k_is)
    (case ga_BadStep => k_is)
    (case gg_BadStep => k_is)
    (case hd_BadStep => k_is)
    (case ha_BadStep => k_is)
    (case hm_BadStep => k_is)
    (case sb_BadStep_StampError => first | rfl | k_is)
    (case ko_BadStep_StampError => first | rfl | k_is)
    (case sb_BadStep_BadEntry => first | rfl | k_is)
    (case ko_BadStep_BadEntry => first | rfl | k_is)
    (case sb_BadStep_BadAnswer => first | rfl | k_is)
    (case ko_BadStep_BadAnswer => first | rfl | k_is)
    (case sb_BadStep_BadSetting => first | rfl | k_is)
    (case ko_BadStep_BadSetting => first | rfl | k_is)
    (case sb_BadStep_BadStep => first | rfl | k_is)
    (case ko_BadStep_BadStep => first | rfl | k_is)
    (case kv_BadStep => first | rfl | k_is)
    (case na_BadStep_index => k_is)
    (case pg_Item => k_is)
    (case hd_Item => k_is)
    (case po_Item => k_is)
    (case sa_Item => k_is)
    (case mk_Item => k_is)
    (case ha_Item => k_is)
    (case hm_Item => k_is)
    (case ko_Item => first | rfl | k_is)
    (case na_Item_holder => k_is)
    (case na_Item_kept => k_is)
    (case na_Item_reader => k_is)
    (case na_Item_value => k_is)
    (case pg_State => k_is)
    (case hd_State => k_is)
    (case po_State => k_is)
    (case sa_State => k_is)
    (case mk_State => k_is)
    (case ha_State => k_is)
    (case hm_State => k_is)
    (case ko_State => first | rfl | k_is)
    (case na_State_bonds => k_is)
    (case na_State_over => k_is)
    (case na_State_store => k_is)
    (case pg_Book => k_is)
    (case hd_Book => k_is)
    (case po_Book => k_is)
    (case sa_Book => k_is)
    (case mk_Book => k_is)
    (case ha_Book => k_is)
    (case hm_Book => k_is)
    (case ko_Book => first | rfl | k_is)
    (case na_Book__answers => k_is)
    (case na_Book__ends => k_is)
    (case na_Book__keep => k_is)
    (case a_BadEntry_init => k_is)
    (case l_BadEntry_init => k_is)
    (case c_BadEntry_init => k_is)
    (case cl_BadEntry_init => k_is)
    (case cv_BadEntry_init => k_is)
    (case cw_BadEntry_init => rfl)
    (case cx_BadEntry_init => first | rfl | decide +kernel)
    (case tp_BadEntry_init => first | rfl | decide +kernel)
    (case su_BadEntry_init => first | rfl | k_is)
    (case ve_BadEntry_init => first | rfl | k_is)
    (case md_BadEntry_init => first | rfl | k_is)
    (case ti_BadEntry_init => k_is)
    (case z_th => k_is)
    (case z_su => k_is)
    (case a_BadAnswer_init => k_is)
    (case l_BadAnswer_init => k_is)
    (case c_BadAnswer_init => k_is)
    (case cl_BadAnswer_init => k_is)
    (case cv_BadAnswer_init => k_is)
    (case cw_BadAnswer_init => rfl)
    (case cx_BadAnswer_init => first | rfl | decide +kernel)
    (case tp_BadAnswer_init => first | rfl | decide +kernel)
    (case su_BadAnswer_init => first | rfl | k_is)
    (case ve_BadAnswer_init => first | rfl | k_is)
    (case md_BadAnswer_init => first | rfl | k_is)
    (case ti_BadAnswer_init => k_is)
    (case a_BadSetting_init => k_is)
    (case l_BadSetting_init => k_is)
    (case c_BadSetting_init => k_is)
    (case cl_BadSetting_init => k_is)
    (case cv_BadSetting_init => k_is)
    (case cw_BadSetting_init => rfl)
    (case cx_BadSetting_init => first | rfl | decide +kernel)
    (case tp_BadSetting_init => first | rfl | decide +kernel)
    (case su_BadSetting_init => first | rfl | k_is)
    (case ve_BadSetting_init => first | rfl | k_is)
    (case md_BadSetting_init => first | rfl | k_is)
    (case ti_BadSetting_init => k_is)
    (case a_BadStep_init => k_is)
    (case l_BadStep_init => k_is)
    (case c_BadStep_init => k_is)
    (case cl_BadStep_init => k_is)
    (case cv_BadStep_init => k_is)
    (case cw_BadStep_init => rfl)
    (case cx_BadStep_init => first | rfl | decide +kernel)
    (case tp_BadStep_init => first | rfl | decide +kernel)
    (case su_BadStep_init => first | rfl | k_is)
    (case ve_BadStep_init => first | rfl | k_is)
    (case md_BadStep_init => first | rfl | k_is)
    (case ti_BadStep_init => k_is)
    (case a_Item_init => k_is)
    (case l_Item_init => k_is)
    (case c_Item_init => k_is)
    (case k_Item_init => k_is)
    (case fn_Item_init => k_is)
    (case a_State_init => k_is)
    (case l_State_init => k_is)
    (case c_State_init => k_is)
    (case k_State_init => k_is)
    (case fn_State_init => k_is)
    (case a_Book_init => k_is)
    (case l_Book_init => k_is)
    (case c_Book_init => k_is)
    (case k_Book_init => k_is)
    (case kw0_Book_init => k_is)
    (case kw1_Book_init => k_is)
    (case T1_Book_init => k_is)
    (case fn_Book_init => k_is)
    (case a_Book_ends => k_is)
    (case pg_Book_ends => k_is)
    (case pt_Book_ends => k_is)
    (case pc_Book_ends => k_is)
    (case l_Book_ends => k_is)
    (case c_Book_ends => k_is)
    (case k_Book_ends => k_is)
    (case a_Book_keep => k_is)
    (case pg_Book_keep => k_is)
    (case pt_Book_keep => k_is)
    (case pc_Book_keep => k_is)
    (case l_Book_keep => k_is)
    (case c_Book_keep => k_is)
    (case k_Book_keep => k_is)
    (case a_Book_getitem => k_is)
    (case l_Book_getitem => k_is)
    (case c_Book_getitem => k_is)
    (case k_Book_getitem => k_is)
    (case fn_Book_getitem => k_is)
    (case nd_Book => k_is)
    (case fi_Book_getitem => k_is)
    (case a_is_stamp => k_is)
    (case l_is_stamp => k_is)
    (case c_is_stamp => k_is)
    (case k_is_stamp => k_is)
    (case T1_is_stamp => k_is)
    (case a_place => k_is)
    (case l_place => k_is)
    (case c_place => k_is)
    (case k_place => k_is)
    (case a_first_state => k_is)
    (case l_first_state => k_is)
    (case c_first_state => k_is)
    (case k_first_state => k_is)
    (case a_item_of => k_is)
    (case l_item_of => k_is)
    (case c_item_of => k_is)
    (case k_item_of => k_is)
    (case a_ascending => k_is)
    (case l_ascending => k_is)
    (case c_ascending => k_is)
    (case k_ascending => k_is)
    (case a_taken => k_is)
    (case l_taken => k_is)
    (case c_taken => k_is)
    (case k_taken => k_is)
    (case a_committed => k_is)
    (case l_committed => k_is)
    (case c_committed => k_is)
    (case k_committed => k_is)
    (case a_settled => k_is)
    (case l_settled => k_is)
    (case c_settled => k_is)
    (case k_settled => k_is)
    (case a_aborted => k_is)
    (case l_aborted => k_is)
    (case c_aborted => k_is)
    (case k_aborted => k_is)
    (case a_without => k_is)
    (case l_without => k_is)
    (case c_without => k_is)
    (case k_without => k_is)
    (case a_falling => k_is)
    (case l_falling => k_is)
    (case c_falling => k_is)
    (case k_falling => k_is)
    (case a_released => k_is)
    (case l_released => k_is)
    (case c_released => k_is)
    (case k_released => k_is)
    (case a_requested => k_is)
    (case l_requested => k_is)
    (case c_requested => k_is)
    (case k_requested => k_is)
    (case a_asked => k_is)
    (case l_asked => k_is)
    (case c_asked => k_is)
    (case k_asked => k_is)
    (case a_entry_met => k_is)
    (case l_entry_met => k_is)
    (case c_entry_met => k_is)
    (case k_entry_met => k_is)
    (case a_fixed_answer => k_is)
    (case l_fixed_answer => k_is)
    (case c_fixed_answer => k_is)
    (case k_fixed_answer => k_is)
    (case a_older_values => k_is)
    (case l_older_values => k_is)
    (case c_older_values => k_is)
    (case k_older_values => k_is)
    (case a_value_read => k_is)
    (case l_value_read => k_is)
    (case c_value_read => k_is)
    (case k_value_read => k_is)
    (case a_binds => k_is)
    (case l_binds => k_is)
    (case c_binds => k_is)
    (case k_binds => k_is)
    (case a_with_bond => k_is)
    (case l_with_bond => k_is)
    (case c_with_bond => k_is)
    (case k_with_bond => k_is)
    (case a_with_reader => k_is)
    (case l_with_reader => k_is)
    (case c_with_reader => k_is)
    (case k_with_reader => k_is)
    (case a_with_item => k_is)
    (case l_with_item => k_is)
    (case c_with_item => k_is)
    (case k_with_item => k_is)
    (case a_fault => k_is)
    (case l_fault => k_is)
    (case c_fault => k_is)
    (case k_fault => k_is)
    (case a_traced => k_is)
    (case l_traced => k_is)
    (case c_traced => k_is)
    (case k_traced => k_is)
    (case a_is_serial => k_is)
    (case l_is_serial => k_is)
    (case c_is_serial => k_is)
    (case k_is_serial => k_is)
    (case a_requests_granted => k_is)
    (case l_requests_granted => k_is)
    (case c_requests_granted => k_is)
    (case k_requests_granted => k_is)
    (case a_check_run => k_is)
    (case l_check_run => k_is)
    (case c_check_run => k_is)
    (case k_check_run => k_is)
    (case a_is_step => k_is)
    (case l_is_step => k_is)
    (case c_is_step => k_is)
    (case k_is_step => k_is)
    (case a_is_name => k_is)
    (case l_is_name => k_is)
    (case c_is_name => k_is)
    (case k_is_name => k_is)
    (case a_steps_of => k_is)
    (case l_steps_of => k_is)
    (case c_steps_of => k_is)
    (case k_steps_of => k_is)
    (case T1_steps_of => k_is)
    (case a_is_numeral => k_is)
    (case l_is_numeral => k_is)
    (case c_is_numeral => k_is)
    (case k_is_numeral => k_is)
    (case a_fault_runs => k_is)
    (case l_fault_runs => k_is)
    (case c_fault_runs => k_is)
    (case k_fault_runs => k_is)
    (case a_shortest_first => k_is)
    (case l_shortest_first => k_is)
    (case c_shortest_first => k_is)
    (case k_shortest_first => k_is)
    (case a_followed => k_is)
    (case l_followed => k_is)
    (case c_followed => k_is)
    (case k_followed => k_is)
    (case a_ways => k_is)
    (case l_ways => k_is)
    (case c_ways => k_is)
    (case k_ways => k_is)
    (case a_answers_at => k_is)
    (case l_answers_at => k_is)
    (case c_answers_at => k_is)
    (case k_answers_at => k_is)
    (case a_check_answer => k_is)
    (case l_check_answer => k_is)
    (case c_check_answer => k_is)
    (case k_check_answer => k_is)
    (case a_is_keep => k_is)
    (case l_is_keep => k_is)
    (case c_is_keep => k_is)
    (case k_is_keep => k_is)
    (case a_erring => k_is)
    (case l_erring => k_is)
    (case c_erring => k_is)
    (case k_erring => k_is)
    (case a_first_that => k_is)
    (case l_first_that => k_is)
    (case c_first_that => k_is)
    (case k_first_that => k_is)
    (case a_has_fault => k_is)
    (case l_has_fault => k_is)
    (case c_has_fault => k_is)
    (case k_has_fault => k_is)
    (case a_law_cell => k_is)
    (case l_law_cell => k_is)
    (case c_law_cell => k_is)
    (case k_law_cell => k_is)
    (case a_law_row => k_is)
    (case l_law_row => k_is)
    (case c_law_row => k_is)
    (case k_law_row => k_is)
    (case a_law_entries => k_is)
    (case l_law_entries => k_is)
    (case c_law_entries => k_is)
    (case k_law_entries => k_is)
    (case a_law_choices => k_is)
    (case l_law_choices => k_is)
    (case c_law_choices => k_is)
    (case k_law_choices => k_is)
    (case a_law_table => k_is)
    (case l_law_table => k_is)
    (case c_law_table => k_is)
    (case k_law_table => k_is)
    (case a_law_fits => k_is)
    (case l_law_fits => k_is)
    (case c_law_fits => k_is)
    (case k_law_fits => k_is)
    (case a_law_sound => k_is)
    (case l_law_sound => k_is)
    (case c_law_sound => k_is)
    (case k_law_sound => k_is)
    (case a_law_terms => k_is)
    (case l_law_terms => k_is)
    (case c_law_terms => k_is)
    (case k_law_terms => k_is)
    (case a_law_clean => k_is)
    (case l_law_clean => k_is)
    (case c_law_clean => k_is)
    (case k_law_clean => k_is)
    (case a_law => k_is)
    (case l_law => k_is)
    (case c_law => k_is)
    (case k_law => k_is)
    (case gv_GREATEST => k_is)
    (case gv_DIGITS => k_is)
    (case gv_SIGNS => k_is)
    (case gv_LONGEST_NAME => k_is)
    (case gv_MOST_DIGITS => k_is)
    (case gv_WORDS => k_is)
    (case dl_WORDS => k_is)
    (case dk_WORDS => first | k_is | exact ⟨⟨_, _, rfl, rfl⟩, ⟨_, _, rfl, rfl⟩, ⟨_, _, rfl, rfl⟩, ⟨_, _, rfl, rfl⟩, trivial⟩)
    (case ds_WORDS => first | rfl | decide +kernel)
    (case gv_WAYS => k_is)
    (case dl_WAYS => k_is)
    (case dk_WAYS => first | k_is | exact ⟨⟨_, _, rfl, rfl⟩, ⟨_, _, rfl, rfl⟩, ⟨_, _, rfl, rfl⟩, ⟨_, _, rfl, rfl⟩, ⟨_, _, rfl, rfl⟩, ⟨_, _, rfl, rfl⟩, ⟨_, _, rfl, rfl⟩, ⟨_, _, rfl, rfl⟩, ⟨_, _, rfl, rfl⟩, ⟨_, _, rfl, rfl⟩, ⟨_, _, rfl, rfl⟩, ⟨_, _, rfl, rfl⟩, ⟨_, _, rfl, rfl⟩, ⟨_, _, rfl, rfl⟩, trivial⟩)
    (case ds_WAYS => first | rfl | decide +kernel)
    (case tl_0_WAYS => k_is)
    (case tl_1_WAYS => k_is)
    (case tl_2_WAYS => k_is)
    (case tl_3_WAYS => k_is)
    (case tl_4_WAYS => k_is)
    (case tl_5_WAYS => k_is)
    (case tl_6_WAYS => k_is)
    (case tl_7_WAYS => k_is)
    (case tl_8_WAYS => k_is)
    (case tl_9_WAYS => k_is)
    (case tl_10_WAYS => k_is)
    (case tl_11_WAYS => k_is)
    (case tl_12_WAYS => k_is)
    (case tl_13_WAYS => k_is)
    (case dn0_WAYS => k_is)
    (case dn1_WAYS => k_is)
    (case dn2_WAYS => k_is)
    (case dn3_WAYS => k_is)
    (case dn4_WAYS => k_is)
    (case dn5_WAYS => k_is)
    (case dn6_WAYS => k_is)
    (case dn7_WAYS => k_is)
    (case dn8_WAYS => k_is)
    (case dn9_WAYS => k_is)
    (case dn10_WAYS => k_is)
    (case dn11_WAYS => k_is)
    (case dn12_WAYS => k_is)
    (case dn13_WAYS => k_is)
    (case gv_FAULTS_BEHIND => k_is)
    (case tl_FAULTS_BEHIND => k_is)
    (case gv_FAULTS => k_is)
    (case tl_FAULTS => k_is)
    (case gv_ENTRIES => k_is)
    (case tl_ENTRIES => k_is)
    (case gv_ANSWERS => k_is)
    (case dl_ANSWERS => k_is)
    (case dk_ANSWERS => first | k_is | exact ⟨⟨_, _, rfl, rfl⟩, ⟨_, _, rfl, rfl⟩, ⟨_, _, rfl, rfl⟩, ⟨_, _, rfl, rfl⟩, ⟨_, _, rfl, rfl⟩, ⟨_, _, rfl, rfl⟩, ⟨_, _, rfl, rfl⟩, ⟨_, _, rfl, rfl⟩, ⟨_, _, rfl, rfl⟩, ⟨_, _, rfl, rfl⟩, ⟨_, _, rfl, rfl⟩, ⟨_, _, rfl, rfl⟩, ⟨_, _, rfl, rfl⟩, ⟨_, _, rfl, rfl⟩, trivial⟩)
    (case ds_ANSWERS => first | rfl | decide +kernel)
    (case tl_0_ANSWERS => k_is)
    (case tl_1_ANSWERS => k_is)
    (case tl_2_ANSWERS => k_is)
    (case tl_3_ANSWERS => k_is)
    (case tl_4_ANSWERS => k_is)
    (case tl_5_ANSWERS => k_is)
    (case tl_6_ANSWERS => k_is)
    (case tl_7_ANSWERS => k_is)
    (case tl_8_ANSWERS => k_is)
    (case tl_9_ANSWERS => k_is)
    (case tl_10_ANSWERS => k_is)
    (case tl_11_ANSWERS => k_is)
    (case tl_12_ANSWERS => k_is)
    (case tl_13_ANSWERS => k_is)
    (case dn0_ANSWERS => k_is)
    (case dn1_ANSWERS => k_is)
    (case dn2_ANSWERS => k_is)
    (case dn3_ANSWERS => k_is)
    (case dn4_ANSWERS => k_is)
    (case dn5_ANSWERS => k_is)
    (case dn6_ANSWERS => k_is)
    (case dn7_ANSWERS => k_is)
    (case dn8_ANSWERS => k_is)
    (case dn9_ANSWERS => k_is)
    (case dn10_ANSWERS => k_is)
    (case dn11_ANSWERS => k_is)
    (case dn12_ANSWERS => k_is)
    (case dn13_ANSWERS => k_is)
    (case gv_MOST_KEPT => k_is)
    (case n_all => k_is)
    (case n_bool => k_is)
    (case n_dict => k_is)
    (case n_enumerate => k_is)
    (case n_int => k_is)
    (case n_isinstance => k_is)
    (case n_len => k_is)
    (case n_range => k_is)
    (case n_sorted => k_is)
    (case n_str => k_is)
    (case n_super => k_is)
    (case n_tuple => k_is)
    (case n_zip => k_is)

