import PyProof.Rows.All
import Wide.All
import OpenK.AllK
import Wide.FinOn
import HandS.ForMost
import HandS.Exc
import HandS.TryOnly
import HandS.ExcInit
import HandS.Nested
import KE.KExcSuper
import HandS.Defaults
import HandS.IsInst
import HandS.ExcIs
import HandS.ExcField
import HandS.WordsExc
import HandS.More
import HandS.Codes
import HandS.SlotsOwn
import KE.KExcIs
import HandS.Text
import HandS.Walk
import HandS.FStr
import HandS.List
import HandS.Conv
import HandS.IterVal
import HandS.Star
import KE.KOwnIter
import HandS.OwnIter
import HandS.TryMany
import HandS.DictComp
import HandS.Property
import HandS.MakeKw
import HandS.MakeKwOnly
import PySem.Challenge.RW_stamprules_k06_cells_of_a_book
set_option Elab.async false
set_option linter.all false
set_option maxRecDepth 100000
set_option maxHeartbeats 4000000
/-! An own exception over ValueError, through a chain of own classes, whose own __init__ begins with super().__init__(..): that __init__ keeps a promise. -/
namespace SI
open PySem PySem.Spec PyProof.Rows L2 NdefX

/-- what the written part tells of the class at C, of the class at D in which the __init__ stands, and of that function at f -/
structure SupT (prog : Program) (K : PySem.W.Frag) (mg : Str → Option Value) (D f cda cc : Addr) (F : NF) (fd : FuncData) : Prop where
  oex : OexC K D
  sup : PySem.W.ks_superIn K D D "__init__" = some (some (.builtin "ValueError.__init__"))
  vE : PySem.W.subIn K (.ref D) (.type "ValueError") = some true
  mD : PySem.W.mroIn K D (.ref D) = some true
  th : PySem.W.nsIn K cStatics "thirdparty.any" = some none
  noSuper : mg "super" = none
  cl : F.cl = [(("__class__" : Str), cc)]
  cdF : F.c = cda
  fn : ∃ (oc kV doc pm ct : Value) (od : Option Addr) (an : Option Addr) (osl : Array (Option Value)),
    fd = PySem.W.fnX F.name F.qual F.params F.body F.scope F.cl .none kV doc pm an (.ref cda) ct ∧ K.lookup f = some ⟨oc, od, .func fd, osl⟩
  code : ∃ (ccl : Value) (cdd : Option Addr) (vs : Array Value) (ccs : Array (Option Value)) (file : Str) (tf : Tok), K.lookup cda = some ⟨ccl, cdd, .fields vs, ccs⟩ ∧ vs[2]? = some (.str file tf) ∧ ((prog.main.file : Str) == file) = true
  codeR : PySem.W.codeIn K (.ref cda) F.qual = true
  cell : ∃ (ccl : Value) (cdd : Option Addr) (ccs : Array (Option Value)), K.lookup cc = some ⟨ccl, cdd, .cell (some (.ref D)), ccs⟩
  top : (prog.main.scope.names.lookup ("super" : Str)).isSome = false

theorem clsIn_of {K : PySem.W.Frag} {C : Addr} (T : OexC K C) : ∃ cd, PySem.W.clsIn K C = some cd ∧ cd.mro.contains (.type "object") = true := by
  obtain ⟨nm, q, N, bs, bm, sn, sub, ab, col, dd, k0, k1, k2, k3, k5, hC, hbm⟩ := T.cls
  refine ⟨{ name := nm, bases := bs, mro := .ref C :: bm, ns := N, qualname := q, hasDict := true, slotNames := sn, subclasses := sub, abstract := ab, collection := col, hasDel := false }, ?_, ?_⟩
  · unfold PySem.W.clsIn; rw [hC] <;> rfl
  · exact (PySem.HandSPX.refsVE_contains "object" (.ref C :: bm) hbm).trans (by decide +kernel)

section
variable {prog : Program} {w : World} {A : Around} {E : Value → Shared → Prop} {h : Heap} {g : Array GenState} {d : Drawn} {t : Nat} {os : OsState}
theorem bw_call {K : PySem.W.Frag} {u e C t0 : Addr} {rest : List Value} {Q : Value → Shared → Prop} (T : OexC K C) (X : K.In h) (he : h.get? e = some (HandSPX.excO C t0)) (hu : h.get? u = some (PySem.W.kxs_mw "ValueError.__init__" e)) (hrest : rest.length ≤ sizeLine)
    (hq : ∀ h' t1, (∀ b o, b ≠ e → h.get? b = some o → h'.get? b = some o) → h'.get? e = some (HandSPX.excO C t1) → Q .none ⟨h', g, d, t, os⟩) :
    wpAny (model prog w) A (call (.ref u) rest) Q E ⟨h, g, d, t, os⟩ := by
  obtain ⟨nm, q, N, bs, bm, sn, sub, ab, col, dd, k0, k1, k2, k3, k5, hC, hbm⟩ := T.cls
  have hC' := X _ _ hC
  refine wpAny_call (codeAny_of_tree ?_)
  show wpAny _ A.in1 (callAny (.ref u) ⟨rest, []⟩) _ _ _
  simp only [callAny]
  refine wpAny_bind (wpAny_load hu ?_)
  simp only [PySem.W.kxs_mw, show (Value.type "method-wrapper" == Value.type "method" || Value.type "method-wrapper" == Value.type "builtin_function_or_method" || Value.type "method-wrapper" == Value.type "method-wrapper") = true by decide, if_true]
  refine PySem.W.KFB.if_so (by decide) ?_
  refine wpAny_bind (PySem.W.check_bound_init F.excBase_ValueError.toExcCallFacts hC' he rfl ?_)
  refine wpAny_bind (wpAny_pure (wpAny_pure ?_))
  refine ⟨plainId_quiet F.excBase_ValueError.init.plain _, codeAny_builtin F.excBase_ValueError.initEntry ?_⟩
  exact PySem.W.exc_init_tree (cls := .ref C) (t0 := t0) (dv := none) (c2 := .none) (c3 := .none) (b4 := .bool false) he hrest (fun h' k e' t' => hq h' _ k e')
end

section
variable {X : Cx} {es : List Expr} {ta : TA} {p0 p1 p2 p3 p4 : Pos} {body : List Stmt} {pins : List (Addr × Obj)} {σ : L2.St} {H : Hp} {s : Shared} {a D f cda cc : Addr} {F : NF} {fd : FuncData} {ar : Arg} {Q : Hp → Prop}
/-- super().__init__(..) as a statement of an __init__ -/
theorem sup_stmt {pl : Sem Bool} (T : SupT X.prog X.K X.mg D f cda cc F fd) (henv : X.env = envF F f X.env.locals)
    (hks : F.scope.names.lookup ("super" : Str) = some .globalImplicit) (hkc : F.scope.names.lookup ("__class__" : Str) = some .free)
    (hp : (F.params.posonlyargs ++ F.params.args).head? = some ar) (hka : F.scope.names.lookup ar.arg = some .local) (hN : X.N[0]? = some ar.arg)
    (ha : PA X es ta) (hpl : (backTo p3 (starEach es X.env)).any (·.1) = false) (hst : ∀ (u : Value) (Q' : Args → Shared → Prop) (s' : Shared), wpAny (model X.prog X.w) X.A (spliced (backTo p3 (starEach es X.env))) (fun vs s₁ => Q' ⟨vs, []⟩ s₁) X.xe s' → wpAny (model X.prog X.w) X.A (evalArgs u true (backTo p3 (starEach es X.env)) []) Q' X.xe s')
    (hev : eval (.Call (.Attribute (.Call (.Name "super" p0) [] [] p1) "__init__" p2) es [] p3) X.env = (do
      let ov ← attributeBase (.Call (.Name "super" p0) [] [] p1) "__init__" X.env (eval (.Call (.Name "super" p0) [] [] p1) X.env)
      standAt p2.atName
      let (f, first) ← holding [ov] (getMethod ov "__init__" pl)
      callWith p3 f first (backTo p3 (starEach es X.env)) []))
    (hsw : swapsWith (.Call (.Attribute (.Call (.Name "super" p0) [] [] p1) "__init__" p2) es [] p3) none p4.line X.env = pure false)
    (I : Inv X pins σ H s) (e0 : σ[0]? = some (some (.ref a))) (ea : H a = some (exo a D none))
    (h : ta σ H fun vs H1 => vs.length ≤ 1000 ∧ H1 a = some (exo a D none) ∧ Q H1) :
    _root_.PySem.wpAt (model X.prog X.w) X.A (.func body X.env) (exec (.Expr (.Call (.Attribute (.Call (.Name "super" p0) [] [] p1) "__init__" p2) es [] p3) p4) X.env) (fun fl s' => fl = .next ∧ ∃ H', Inv X pins σ H' s' ∧ Q H') X.xe s := by
  obtain ⟨fn, _⟩ : True ∧ True := ⟨trivial, trivial⟩
  obtain ⟨oc, kV, doc, pm, ct, od, an, osl, rfl, hfn⟩ := T.fn
  obtain ⟨ccl, cdd, vs, ccs, file, tf, hcode, hvs, hfile⟩ := T.code
  obtain ⟨cl, cld, csl, hcell⟩ := T.cell
  obtain ⟨cdD, hD, hob⟩ := clsIn_of T.oex
  have KX := I.kIn
  have hki : ∀ x, X.env.kindOf x = List.lookup x F.scope.names := fun x => by rw [henv] <;> rfl
  have hkind : X.env.scope.kind = .function := I.ok.kind
  obtain ⟨oD, hD1, hD2⟩ : ∃ oD, s.heap.get? D = some oD ∧ oD.data = .cls cdD := by
    unfold PySem.W.clsIn at hD
    split at hD
    · rename_i c d cd' sl ho
      cases hD
      exact ⟨_, KX _ _ ho, rfl⟩
    · cases hD
  obtain ⟨t1, ho⟩ := exo_at I.hok ea
  have hxD : a ≠ D := by
    rintro rfl
    rw [ho] at hD1
    cases hD1
    cases hD2
  refine ks_wpAt_Expr_any (ks_wpAt_MethodCall (pl := pl) ?_ hev) (by simp [interactive, hkind]) hsw
  have hcells : X.env.cells = [(("__class__" : Str), cc)] := by rw [henv]; exact T.cl
  refine ks_wpAt_super_base (f := f) (cc := cda) (of := ⟨oc, od, .func (PySem.W.fnX F.name F.qual F.params F.body F.scope F.cl .none kV doc pm an (.ref cda) ct), osl⟩) (oc := ⟨ccl, cdd, .fields vs, ccs⟩)
    (by rw [hki]; exact hks) (by rw [hki]; exact hkc) (by decide +kernel) (by rw [henv] <;> rfl) (KX _ _ hfn) rfl hp (by rw [henv, ← T.cdF] <;> rfl) (KX _ _ hcode) rfl hvs hfile T.top ?_
  obtain ⟨mb, hb1, hb2⟩ := I.mod.blt
  refine PySem.W.ks_loadName_global hkind (by rw [hki]; exact hks) (PySem.Calls.loadGlobal_builtin (by rw [I.ok.glob]; exact I.mod.glob.keeps I.bk) T.noSuper (by rw [I.ok.blt]; exact hb1.keeps I.bk) ((hb2 _ (by decide)).trans (by decide +kernel : bootBuiltins ("super" : Str) = some (.type "super"))) ⟨rfl, ?_⟩)
  refine wpAny_loadName_free hkind (by rw [hki]; exact hkc) (by rw [hcells]; rfl) ⟨_, KX _ _ hcell, rfl⟩ ?_
  obtain ⟨m, hn, hl⟩ := I.loc
  obtain ⟨u, ru, lk⟩ := hl 0 ar.arg (.ref a) hN e0 (by rw [henv]; exact Or.inl hka)
  obtain rfl : u = Value.ref a := ru
  have hm : m ar.arg = some (.ref a) := by
    rcases lk with ⟨_, z⟩ | ⟨z, _⟩
    · exact z
    · rw [hki, hka] at z
      rcases z with z | z <;> cases z
  refine wpAny_loadName_local hkind (by rw [hki]; exact hka) hn hm ?_
  obtain ⟨hh, g, d, t, os⟩ := s
  refine ks_wpAny_isType_cls hD1 hD2 ⟨rfl, ?_⟩
  refine ks_wpAny_call_super hD1 hD2 ho rfl (fun c e => by cases e) (PySem.W.looks_mroIn KX T.mD) (fun h' hso kp => ?_)
  -- the super object stands at so; now its __init__
  have I1 : Inv X pins σ H ⟨h', g, d, t, os⟩ := I.kept (t' := t) kp
  have KX1 := I1.kIn
  have ho1 := kp _ _ ho
  have hB : PySem.W.Looks (model X.prog X.w) h' (isInstance (.ref a) (.type "ValueError")) true :=
    (PySem.W.InstAt.type (x := a) (ox := HandSPX.excO D t1) (C := D) (od := none) ⟨ho1, rfl, rfl, trivial⟩).andThen (PySem.W.looks_subIn KX1 T.vE)
  have hf := T.sup
  unfold PySem.W.ks_superIn at hf
  rw [hD] at hf
  refine PySem.W.kxs_getMethod (K := X.K) PySem.W.kxs_ValueError hso (PySem.W.looks_opaque KX1 T.th) (l₀ := cdD.mro) ?_ rfl KX1 hf hB hxD (by decide +kernel) ?_
  · exact fun A Q E s k q => wpAny_bind ((PySem.W.looks_clsIn KX1 hD) A _ E s k (wpAny_pure q))
  -- the arguments
  have kp2 : ∀ b u, h'.get? b = some u → (h'.push (PySem.W.kxs_mw "ValueError.__init__" a)).get? b = some u := fun b u e => Heap.get?_push_of_some _ e
  have I2 : Inv X pins σ H ⟨h'.push (PySem.W.kxs_mw "ValueError.__init__" a), g, d, t + 1, os⟩ := I1.kept (t' := t + 1) kp2
  have hu : (h'.push (PySem.W.kxs_mw "ValueError.__init__" a)).get? h'.objs.size = some (PySem.W.kxs_mw "ValueError.__init__" a) := Heap.get?_push_size _ rfl
  have I3 : Inv X (pins ++ [(h'.objs.size, PySem.W.kxs_mw "ValueError.__init__" a)]) σ H ⟨h'.push (PySem.W.kxs_mw "ValueError.__init__" a), g, d, t + 1, os⟩ := by
    refine I2.pins_of fun p hp => ?_
    rcases List.mem_append.mp hp with hp | hp
    · exact I2.pin p (List.mem_append_right _ hp)
    · rw [List.mem_singleton] at hp
      subst hp
      refine ⟨hu, I1.hok.fresh (Nat.le_refl _), ?_, I1.nofs (Nat.le_refl _), fun v z => by cases z⟩
      exact fun z => absurd (I1.lt) (by rw [← z]; exact Nat.lt_irrefl _)
  refine PySem.W.kxs_callWith (i := "ValueError.__init__") (x := a) hpl (hst _ _ _ (thn (ha.run p3 _ _ σ H _ I3 h) fun us s1 ⟨vs1, H1, J, r1, hz, ea1, q⟩ => ?_))
  have hu1 := (J.pin (h'.objs.size, PySem.W.kxs_mw "ValueError.__init__" a) (by simp)).1
  refine ⟨hu1, ?_⟩
  have J0 : Inv X pins σ H1 s1 := J.pins_of fun p hp => J.pin p (List.mem_append_right _ (List.mem_append_left _ hp))
  obtain ⟨t2, ho2⟩ := exo_at J.hok ea1
  obtain ⟨h1, g1, d1, tk1, os1⟩ := s1
  have hlen : us.length ≤ sizeLine := by
    rw [← Paired.length r1, sizeLine_eq]
    omega
  refine bw_call T.oex J.kIn ho2 hu1 hlen fun h2 t3 k hx => ⟨rfl, H1, ?_, q⟩
  have W := J0.write (t' := tk1) (x := a) (e := a) (o := exo a D none) (by rw [ea1]; exact True.intro) (.inl rfl) k ⟨_, hx⟩ (exo_ok hx)
  have eu : upd H1 a (exo a D none) = H1 := by
    funext b
    by_cases hb : b = a
    · rw [hb, upd_same, ea1]
    · rw [upd_ne hb]
  rw [eu] at W
  exact W
end

section
variable {CX : CXT} {P : Program} {w : World} {K : PySem.W.Frag} {mg : Str → Option Value} {base : Heap} {k : Nat} {D f cda cc : Addr} {F : NF} {fd : FuncData} {N ps : List Str} {sp : Sp} {es : List Expr} {rest : List Stmt} {p0 p1 p2 p3 p4 : Pos} {ar : Arg}
abbrev sfr : List Str := [("__class__" : Str)]
abbrev st0 (N : List Str) (vs : List V) : L2.St := startF N vs [none]
/-- THE RULE: an exception's __init__ that begins with super().__init__(..) -/
theorem ok_sup (T : SupT P K mg D f cda cc F fd) (S : NScope N ps sfr F.scope) (hbody : F.body = .Expr (.Call (.Attribute (.Call (.Name "super" p0) [] [] p1) "__init__" p2) es [] p3) p4 :: rest)
    (hks : F.scope.names.lookup ("super" : Str) = some .globalImplicit) (hp : (F.params.posonlyargs ++ F.params.args).head? = some ar) (hps : ps[0]? = some ar.arg)
    (len : ∀ vs H Q E, sp vs H Q E → vs.length = ps.length)
    (hb : ∀ (A : Around) (outer : List Env) (s : Shared) (H : Hp) (vs : List V) (Q : VK) (E : XK), Room k (A.deeper (envF F f s.heap.objs.size)) → sp vs H Q E →
      ∃ (a : Addr) (ta : TA) (t : TS) (pl : Sem Bool), PA (ncx CX P w K mg base N F f A outer s H E) es ta ∧ PSs (ncx CX P w K mg base N F f A outer s H E) rest t ∧
        (backTo p3 (starEach es (envF F f s.heap.objs.size))).any (·.1) = false ∧
        (∀ (M : Model) (B : Around) (u : Value) (Q' : Args → Shared → Prop) (E' : Value → Shared → Prop) (s' : Shared), wpAny M B (spliced (backTo p3 (starEach es (envF F f s.heap.objs.size)))) (fun vs s₁ => Q' ⟨vs, []⟩ s₁) E' s' → wpAny M B (evalArgs u true (backTo p3 (starEach es (envF F f s.heap.objs.size))) []) Q' E' s') ∧
        eval (.Call (.Attribute (.Call (.Name "super" p0) [] [] p1) "__init__" p2) es [] p3) (envF F f s.heap.objs.size) = (do
          let ov ← attributeBase (.Call (.Name "super" p0) [] [] p1) "__init__" (envF F f s.heap.objs.size) (eval (.Call (.Name "super" p0) [] [] p1) (envF F f s.heap.objs.size))
          standAt p2.atName
          let (g, first) ← holding [ov] (getMethod ov "__init__" pl)
          callWith p3 g first (backTo p3 (starEach es (envF F f s.heap.objs.size))) []) ∧
        swapsWith (.Call (.Attribute (.Call (.Name "super" p0) [] [] p1) "__init__" p2) es [] p3) none p4.line (envF F f s.heap.objs.size) = pure false ∧
        vs[0]? = some (.ref a) ∧ H a = some (exo a D none) ∧ ta (st0 N vs) H fun ws H1 => ws.length ≤ 1000 ∧ H1 a = some (exo a D none) ∧ t { nx := fun _ H' => Q .non H', rt := Q } (st0 N vs) H1) :
    FnOk P w K mg base CX (k + 1) f fd ps sp := by
  refine ⟨len, fun A outer s H args us vs Q E hr e0 hbd r hsp => ?_⟩
  have hl := len _ _ _ _ hsp
  have KX : K.In s.heap := e0.mod.kin.keeps fun b o e => (e0.bs b o e).1
  have lim : s.heap.NoLimit := e0.mod.nolimit.keeps fun b o e => (e0.bs b o e).1
  obtain ⟨oc, kV, doc, pm, ct, od, an, osl, efd, hfn⟩ := T.fn
  obtain ⟨cl, cld, csl, hcell⟩ := T.cell
  have hcc := KX _ _ hcell
  have hHc : H cc = none := (e0.bs _ _ (e0.mod.kin _ _ hcell)).2
  have C : CellsAt F.cl sfr [none] s.heap H := by
    rw [T.cl]
    refine ⟨rfl, fun y c e => ?_, fun x y c e1 e2 => ?_, fun i y hy => ?_⟩
    · have ec : c = cc := by
        simp only [List.lookup] at e
        split at e
        · exact (Option.some.inj e).symm
        · cases e
      subst ec
      exact ⟨hHc, _, _, hcc, rfl⟩
    · have key : ∀ {z : Str}, List.lookup z [(("__class__" : Str), cc)] = some c → z = ("__class__" : Str) := fun {z} e => by
        simp only [List.lookup] at e
        split at e
        · rename_i q
          exact eq_of_beq q
        · cases e
      rw [key e1, key e2]
    · cases i with
      | zero =>
        have hy' : some ("__class__" : Str) = some y := hy
        cases hy'
        exact ⟨cc, by simp [List.lookup], fun v e => by cases e⟩
      | succ i =>
        have : sfr[i + 1]? = none := rfl
        rw [this] at hy
        cases hy
  have hka : F.scope.names.lookup ar.arg = some .local := S.par _ (List.mem_of_getElem? hps)
  have hkc : F.scope.names.lookup ("__class__" : Str) = some .free := S.frk _ (by simp)
  have hN : N[0]? = some ar.arg := by
    have q : (ps ++ sfr)[0]? = some ar.arg := by
      rw [List.getElem?_append_left (List.getElem?_eq_some_iff.mp hps).1]
      exact hps
    rw [← S.pre, List.getElem?_take_of_lt (by have := (List.getElem?_eq_some_iff.mp hps).1; omega)] at q
    exact q
  subst efd
  refine PySem.ks_codeAny_call_defAt (fd := PySem.W.fnX F.name F.qual F.params F.body F.scope F.cl .none kV doc pm an (.ref cda) ct) (body := F.body) hr.depth (KX _ _ hfn) rfl lim (PySem.W.codeRec_of KX T.codeR) rfl hbd S.nocell (fun ⟨n, _⟩ hy => S.par n (List.of_mem_zip hy).1) (fun h₁ hns kp => ?_) S.co S.gen S.kind
  obtain ⟨a, ta, t, pl, hPA, hPS, hpl, hst, hev, hsw, ea, eH, hq⟩ := hb A outer s H vs Q E (hr.deeper _) hsp
  have I : Inv (ncx CX P w K mg base N F f A outer s H E) [] (startF N vs [none]) H { s with heap := h₁, toks := s.toks + (ps.zip us).length } := inv_startN S hr.hd e0 hl r C hns kp
  have eenv : PySem.callEnv (PySem.W.fnX F.name F.qual F.params F.body F.scope F.cl .none kV doc pm an (.ref cda) ct) s.heap.objs.size f = envF F f s.heap.objs.size := by
    rw [← T.cdF]
    rfl
  rw [eenv]
  have fin : ∀ {s' : Shared} {σ' : L2.St} {H' : Hp} {v : V} {u : Value}, Inv (ncx CX P w K mg base N F f A outer s H E) [] σ' H' s' → L2.RelV v u → Q v H' → CE outer P w H s Q u s' :=
    fun {s' σ' H' v u} J rv q => ⟨v, H', J.os, J.bare, J.base, J.hok, rv, q⟩
  rw [hbody]
  have e0' : (startF N vs [none])[0]? = some (some (V.ref a)) := by
    unfold startF
    have hi := (List.getElem?_eq_some_iff.mp ea).1
    rw [List.getElem?_append_left (by rw [List.length_map]; exact hi), List.getElem?_map, ea]
    rfl
  have first := sup_stmt (X := ncx CX P w K mg base N F f A outer s H E) (body := F.body) (pl := pl) T rfl hks hkc hp hka hN hPA hpl (fun u Q' s' z => hst _ _ u Q' _ s' z) hev hsw I e0' eH hq
  rw [hbody] at first
  refine PySem.ks_wpAt_execs_cons (PySem.ks_wpAt_mono first (fun fl s' hs => ?_) fun e s' hs => hs)
  obtain ⟨rfl, H1, J, q⟩ := hs
  refine PySem.wpAt_of_wpAny (wpAny_mono (hPS.run [] s' _ H1 _ J q) (fun fl s2 hs => ?_) fun e s2 hs => hs)
  cases fl with
  | ret u =>
    obtain ⟨v, σ', H', J, rv, q⟩ := hs
    exact fin J rv q
  | next =>
    obtain ⟨σ', H', J, q⟩ := hs
    exact fin (v := V.non) (u := Value.none) J rfl q
  | brk =>
    obtain ⟨_, _, _, q⟩ := hs
    exact False.elim q
  | cont =>
    obtain ⟨_, _, _, q⟩ := hs
    exact False.elim q
end
end SI

/-! Rules of our own over the hand layer: a comparison by an own method, isinstance of a caught error that has fields, an instance made within a try. -/
namespace CM
open PySem PySem.Spec PyProof.Rows L2
section
variable {X : Cx} {CX : CXT} {pins : List (Addr × Obj)} {σ : L2.St} {H : Hp} {s : Shared} {a C g : Addr} {n : Nat} {sp : Sp} {E : XK}
/-- x op y, both instances of the class at C, whose own def for op is at g -/
def rOwnI (C : Addr) (sp : Sp) (E : XK) : R2 := fun x y H Q => ∃ a dx fs b dy gs, x = .ref a ∧ y = .ref b ∧ H a = some (.ins C dx fs) ∧ H b = some (.ins C dy gs) ∧ sp [x, y] H Q E
theorem op_ownI {op : CmpOp} (hop : ∀ a b, compareOp op a b = richCompare op a b) (hs : PySem.W.findIn X.K (.ref C) (cmpInfo op).2.1 = some (some (.ref g))) (hf : PySem.W.isFn X.K (.ref g) = true) (F : FnR X.prog X.w X.K X.mg X.base CX n g sp)
    (hr : Room n X.A) (hx : Passes CX X E) : OpR X (compareOp op) (rOwnI C sp E) := by
  intro pins s σ H x y v u Q I rx ry h
  obtain ⟨a, dx, fs, b, dy, gs, rfl, rfl, ha, hb, q⟩ := h
  cases (show v = Value.ref a from rx)
  cases (show u = Value.ref b from ry)
  obtain ⟨mA, O, _⟩ := ins_get I.hok ha
  obtain ⟨od, J, _⟩ := O.look
  obtain ⟨mB, O', _⟩ := ins_get I.hok hb
  obtain ⟨od', J', _⟩ := O'.look
  obtain ⟨m, hF⟩ := I.fr
  rw [hop]
  refine PySem.W.cmp_K (op := op) (tb := .ref C) hr.units0 hF I.ok.mod.kin J J'.type (by simp [PySem.W.notFirst]) hs hf ?_
  refine wpAny_mono (wpAny_call (run_fnR (us := [.ref a, .ref b]) (vs := [.ref a, .ref b]) F hr hx I (.cons rfl (.cons rfl .nil)) q)) (fun w s' z => ?_) fun _ _ x => x
  obtain ⟨z', H', I', rz, qz⟩ := z
  exact SlX.cmpback rz ⟨z', H', I', rz, qz⟩
end
/-- isinstance(e, c), e the exception that the suite holds (its class cls, its dict d), with fields of its own -/
def rIsD (K : PySem.W.Frag) (D a : Addr) (cls : Value) (d : Option Addr) : List V → Hp → VK → Prop := fun xs H Q => ∃ (c : V) (cv : Value) (b : Bool) (dd : Addr) (fs : List (Str × V)), xs = [.ref a, c] ∧ cls = .ref D ∧ d = some dd ∧ ClsV c cv ∧ PySem.W.kitOne K (.ref D) cv = some b ∧ H dd = some (.xd fs) ∧ Q (.bl b) H
theorem call_isD {X : Cx} {a D : Addr} {cls : Value} {d : Option Addr} {oe : Obj} {pn : List (Addr × Obj)} (C : ExcC X.K D) (hz : Zc cls d oe) (hf : ∃ vs, oe.data = .fields vs) : CallR (X.suite a ((a, oe) :: pn)) (.builtin "isinstance") (rIsD X.K D a cls d) := by
  intro pins s σ H xs us Q I r h
  obtain ⟨c, cv, b, dd, fs, rfl, rfl, rfl, hcv, e, ea, q⟩ := h
  cases r with
  | cons rx rr =>
    cases rr with
    | cons rt rr =>
      cases rr
      cases rx
      have ec := hcv.eq rt
      subst ec
      obtain ⟨hget, _⟩ := I.pin (a, oe) (List.mem_append.mpr (.inl List.mem_cons_self))
      obtain ⟨vs, hv⟩ := hf
      have hx : ObjOk X.prog X.w H s.heap dd (.xd fs) := I.hok dd _ ea
      obtain ⟨mA, hns, hr⟩ := hx
      obtain ⟨od, ho, hl⟩ := lookIn_ns hns
      have J : PySem.W.InstAt s.heap a oe D (some od) := ⟨hget, hz.1, by unfold PySem.W.notCls; rw [hv] <;> rfl, by rw [hz.2]; exact ho⟩
      have hcl : (PySem.W.clsIn X.K D).isSome = true := by
        obtain ⟨cd, hc, _⟩ := PySem.W.any_some C.hd
        rw [hc]
        rfl
      exact PySem.W.kia_one (PySem.W.kitx_exc hcl C.hg C.hk C.hs C.ha C.hn C.ht C.hm) I.kIn J e (fun z => by cases hcv <;> cases z) fun tk => ⟨.bl b, H, I.kept (t' := tk) fun _ _ z => z, rfl, q⟩
/-- an object that stands, behind a new one -/
theorem kp {H : Hp} {p q : Addr} {o o' : HO} (n : H p = none) (h : H q = some o) : upd H p o' q = some o := by
  rw [upd_ne (ne_of_none h n)]
  exact h
theorem same_new {H H' : Hp} {p : Addr} {o : HO} (s : Same H H') (n : H' p = none) : Same H (upd H' p o) := fun b o' h => kp n (s b o' h)
section
variable {X : Cx} {CX : CXT} {k : Nat} {f C : Addr} {fd : FuncData} {ps : List Str} {sp : Sp} {E : L2.St → XK} {x : Str} {p pos : Pos} {e : Expr} {es : List Expr} {t : TA} {ds : List Value} {dvs : List V}
/-- C(e, ..) whose __init__ may raise, within a try -/
def tMakeS (C : Addr) (sp : Sp) (dvs : List V) (E : L2.St → XK) (t : TA) : TE := fun σ H Q => t σ H fun vs H1 => ∀ x dx, H1 x = none → H1 dx = none → dx ≠ x →
  sp (.ref x :: (vs ++ dvs)) (upd (upd H1 dx (.own x)) x (.ins C dx [])) (fun v H2 => v = .non ∧ Q (.ref x) H2) (E σ)
theorem pe_makeS (M : Mk X.K C f) (F : FnOk X.prog X.w X.K X.mg X.base CX k f fd ps sp) (hr : Room (k + 1) X.A) (hg : Gl X x) (hm : X.mg x = some (.ref C)) (hb : Binds X.K fd ps ds) (hd : Vals dvs ds) (hx : ∀ σ, PassesAt CX X σ (E σ))
    (ha : PA X (e :: es) t) (hdb : (x == ("__debug__" : Str)) = false := by decide) (he : starEach (e :: es) X.env = (false, eval e X.env) :: starEach es X.env := by rfl) (hpl : (backTo pos (starEach es X.env)).any (·.1) = false := by rfl) :
    PE X (.Call (.Name x p) (e :: es) [] pos) (tMakeS C sp dvs E t) := by
  refine ⟨fun pins s σ H Q I h => ?_⟩
  refine wpAny_Call_Name_kw (ld_glob I hg hm ?_ hdb)
  refine PySem.W.callWith_K (h₀ := X.base) I.ok.mod.kin M.kp (thn (ha.run pos pins s σ H _ I h) fun us s1 ⟨vs, H1, I1, r, q⟩ => ⟨I1.kIn, ?_⟩) he hpl
  have hq := q (s1.heap.objs.size + 1) s1.heap.objs.size (I1.hok.fresh (Nat.le_succ _)) (I1.hok.fresh (Nat.le_refl _)) (Nat.ne_of_lt (Nat.lt_succ_self _))
  have I2 := Inv.made (C := C) I1
  have r2 : Vals (V.ref (s1.heap.objs.size + 1) :: (vs ++ dvs)) (Value.ref (s1.heap.objs.size + 1) :: (us ++ ds)) := .cons rfl (r.append hd)
  have hl : (Value.ref (s1.heap.objs.size + 1) :: us ++ ds).length = ps.length := by
    have e := r2.length
    rw [F.len _ _ _ _ hq] at e
    exact e.symm
  refine wpAny_call (make_map (f := f) I1.kIn M.makes M.init (beq_iff_eq.mp M.fn) (codeAny_mono (F.run _ X.stack _ _ ⟨Value.ref (s1.heap.objs.size + 1) :: us, []⟩ (Value.ref (s1.heap.objs.size + 1) :: (us ++ ds)) _ _ (E σ) (hr.make C us [])
    (I2.env0.make C us []) (hb _ (Value.ref (s1.heap.objs.size + 1) :: us) I2.kIn hl) r2 hq) fun r s' hq' => ?_))
  cases r with
  | error e => exact hx σ pins _ _ e s' I2 hq'
  | ok fl =>
    cases fl with
    | ret u =>
      obtain ⟨v, H', I3, rv, ev, q3⟩ := I2.after hq'
      subst ev
      exact ⟨rv, ⟨V.ref (s1.heap.objs.size + 1), H', I3, rfl, q3⟩⟩
    | next => exact False.elim hq'
    | brk => exact False.elim hq'
    | cont => exact False.elim hq'
end
end CM

/-! A written dict from texts to texts: d[k], k not in d. -/
namespace CM
open PySem PySem.Spec PyProof.Rows L2
/-- the heap behind an error that was made with one field -/
theorem raise_heap {H : Hp} {a d : Addr} {o1 x o2 y : HO} (ha : H a = none) : upd (del (upd (upd (upd H a o1) d x) a o2) a) d y = upd H d y := by
  funext b
  by_cases hbd : b = d
  · rw [hbd, upd_same, upd_same]
  · rw [upd_ne hbd, upd_ne hbd]
    by_cases hba : b = a
    · rw [hba, del_same, ha]
    · rw [del_ne hba, upd_ne hba, upd_ne hbd, upd_ne hba]
theorem cut_head {z : Str} : TL.tl (cutS z none (some 1)) = (TL.tl z).take 1 := by
  show (z.cps.toList.drop (HT.sIx z.length 0 none)).take (HT.sIx z.length z.length (some ((1 : Nat) : Int)) - HT.sIx z.length 0 none) = _
  rw [HT.sIx_none, HT.sIx_nat, List.drop_zero, Nat.sub_zero]
  have e : z.length = z.cps.toList.length := TL.len_tl z
  rw [e]
  show _ = z.cps.toList.take 1
  generalize z.cps.toList = l
  cases l with
  | nil => rfl
  | cons c d =>
    have : min 1 (c :: d).length = 1 := by simp
    rw [this]
theorem cut_tail {z : Str} : TL.tl (cutS z (some 1) none) = (TL.tl z).drop 1 := by
  show (z.cps.toList.drop (HT.sIx z.length 0 (some ((1 : Nat) : Int)))).take (HT.sIx z.length z.length none - HT.sIx z.length 0 (some ((1 : Nat) : Int))) = _
  rw [HT.sIx_none, HT.sIx_nat]
  have e : z.length = z.cps.toList.length := TL.len_tl z
  rw [e]
  show _ = z.cps.toList.drop 1
  generalize z.cps.toList = l
  cases l with
  | nil => rfl
  | cons c d =>
    have : min 1 (c :: d).length = 1 := by simp
    rw [this]
    have l : ((c :: d).drop 1).length = (c :: d).length - 1 := List.length_drop
    rw [List.take_of_length_le (by omega)]
/-- at p the written dict of the pairs kvs -/
def WDct (K : PySem.W.Frag) (w : World) (p : Addr) (kvs : List (Str × Str)) : Prop :=
  ∃ es n, K.lookup p = some ⟨.type "dict", none, .dict es n, #[]⟩ ∧ PySem.W.KeysLit w.params es.toList ∧ (p == sysModules) = false ∧ Paired (fun (e : DictEntry) (q : Str × Str) => (∃ t, e.key = .str q.1 t) ∧ ∃ t, e.val = .str q.2 t) es.toList kvs
theorem wd_find : ∀ {es : List DictEntry} {kvs : List (Str × Str)}, Paired (fun (e : DictEntry) (q : Str × Str) => (∃ t, e.key = .str q.1 t) ∧ ∃ t, e.val = .str q.2 t) es kvs → ∀ z : Str,
    match kvs.lookup z with
    | some y => ∃ t, (es.find? fun e => PySem.Value.isStrOf z e.key).map (·.val) = some (.str y t)
    | none => (es.find? fun e => PySem.Value.isStrOf z e.key).map (·.val) = none
  | _, _, .nil, _ => rfl
  | e :: es, (a, b) :: kvs, .cons ⟨⟨t, hk⟩, u, hv⟩ r, z => by
    have ih := wd_find r z
    have ek : PySem.Value.isStrOf z e.key = (a == z) := by rw [hk] <;> rfl
    by_cases h : z = a
    · subst h
      have l : ((z, b) :: kvs).lookup z = some b := by simp [List.lookup]
      rw [l]
      refine ⟨u, ?_⟩
      rw [List.find?_cons, ek]
      simp [hv]
    · have l : ((a, b) :: kvs).lookup z = kvs.lookup z := by
        have : (z == a) = false := by simpa using h
        simp [List.lookup, this]
      have n : (a == z) = false := by
        have : ¬ a = z := fun q => h q.symm
        simpa using this
      rw [l, List.find?_cons, ek, n]
      exact ih
theorem wd_findBy {es : Array DictEntry} {kvs : List (Str × Str)} (r : Paired (fun (e : DictEntry) (q : Str × Str) => (∃ t, e.key = .str q.1 t) ∧ ∃ t, e.val = .str q.2 t) es.toList kvs) (z : Str) :
    findBy PySem.Value.isStrOf es z = (es.toList.find? fun e => PySem.Value.isStrOf z e.key).map (·.val) := by
  obtain ⟨l⟩ := es
  simp [findBy]
def rNotInW (K : PySem.W.Frag) (w : World) : R2 := fun x y H Q => ∃ z p kvs, x = .str z ∧ y = .ref p ∧ WDct K w p kvs ∧ Q (.bl (!(kvs.lookup z).isSome)) H
def rIxW (K : PySem.W.Frag) (w : World) : R2 := fun x y H Q => ∃ z p kvs v, x = .ref p ∧ y = .str z ∧ WDct K w p kvs ∧ kvs.lookup z = some v ∧ Q (.str v) H
section
variable {X : Cx}
theorem op_notinW : OpR X (compareOp .NotIn) (rNotInW X.K X.w) := by
  intro pins s σ H x y v u Q I rx ry h
  obtain ⟨z, p, kvs, rfl, rfl, ⟨es, n, hl, hk, low, pr⟩, q⟩ := h
  obtain ⟨t, rfl⟩ := (show ∃ t, v = Value.str z t from rx)
  obtain rfl : u = Value.ref p := ry
  have hm := PySem.W.mapOf_K (prog := X.prog) (w := X.w) I.kIn hl hk
  refine wpAny_notIn_of (strKind_is X.prog X.w z t) low hm ?_
  have e : (findBy PySem.Value.isStrOf es z).isSome = (kvs.lookup z).isSome := by
    have f := wd_find pr z
    rw [wd_findBy pr z]
    cases hq : kvs.lookup z with
    | none =>
      rw [hq] at f
      rw [f] <;> rfl
    | some y =>
      rw [hq] at f
      obtain ⟨t', f⟩ := f
      rw [f] <;> rfl
  have e' : (findBy Value.isStrOf es z).isSome = (kvs.lookup z).isSome := e
  rw [e']
  exact ⟨.bl (!(kvs.lookup z).isSome), H, I.tok _, rfl, q⟩
theorem ix_W : IxR X (rIxW X.K X.w) := by
  intro value slice pins s σ H x y v u Q I rx ry h hs
  obtain ⟨z, p, kvs, r, rfl, rfl, ⟨es, n, hl, hk, low, pr⟩, lk, q⟩ := h
  obtain rfl : v = Value.ref p := rx
  obtain ⟨t, rfl⟩ := ry
  have hm := PySem.W.mapOf_K (prog := X.prog) (w := X.w) I.kIn hl hk
  have f := wd_find pr z
  rw [lk] at f
  obtain ⟨t', f⟩ := f
  rw [← wd_findBy pr z] at f
  exact tail_any hm.typeIs slot_dict_getitem.lookup (wpAny_getItem_of (strKind_is X.prog X.w z t) hm f ⟨.str r, H, I.tok _, ⟨_, rfl⟩, q⟩) hs
end
end CM

/-! Own operators of a plain class, below the layer: o[i], o[i] = v, x in o, o &= p, iter(o). -/
namespace OWN
open PySem PySem.Spec PyProof.Rows
section
variable {prog : Program} {w : World} {M : Model} {A : Around} {E : Value → Shared → Prop} {s : Shared} {K : PySem.W.Frag} {x C g : Addr} {ox : Obj} {od : Option Obj}
theorem spec {self : Value} {name : PySem.Str} {args : List Value} {Q : Option Value → Shared → Prop} (sp : PySem.W.Looks M s.heap (specialOf self name) (some (.ref g))) (hb : PySem.W.Looks M s.heap (bindSpecial (.ref g) self) (.ref g, [self]))
    (hc : wpAny M A (call (.ref g) (self :: args)) (fun v => Q (some v)) E s) : wpAny M A (callSpecial? self name args) Q E s := by
  simp only [callSpecial?]
  refine wpAny_bind (sp.here ?_)
  refine wpAny_holding (wpAny_bind (hb.here ?_))
  exact wpAny_bind (wpAny_mono hc (fun v s' h' => wpAny_pure h') fun _ _ h' => h')
theorem special {name : PySem.Str} {h : Heap} (X : K.In h) (J : PySem.W.InstAt h x ox C od) (hs : PySem.W.findIn K (.ref C) name = some (some (.ref g))) : PySem.W.Looks M h (specialOf (.ref x) name) (some (.ref g)) :=
  J.type.andThen (PySem.W.looks_findIn X hs)
theorem seqkey {h : Heap} {k : Value} {nm : PySem.Str} (X : K.In h) (J : PySem.W.InstAt h x ox C od) (nd : PySem.W.mroIn K C (.type "collections.deque") = some false) : PySem.W.Looks M h (sequenceKey (.ref x) k nm) k := by
  have dq : PySem.W.Looks M h (seqItemTypes.anyM fun n => isSubtype (.ref C) (.type n)) false := by
    show PySem.W.Looks M h (isSubtype (.ref C) (.type "collections.deque") >>= fun b => _) false
    exact (PySem.W.looks_mroIn X nd).andThen .now
  intro A Q E s kp q
  unfold sequenceKey
  refine wpAny_bind (J.type A _ E s kp ?_)
  dsimp only
  refine wpAny_bind (dq A _ E s kp ?_)
  exact wpAny_pure q
theorem getItem_own {i : Value} {Q : Value → Shared → Prop} (X : K.In s.heap) (J : PySem.W.InstAt s.heap x ox C od) (hs : PySem.W.findIn K (.ref C) "__getitem__" = some (some (.ref g))) (hf : PySem.W.isFn K (.ref g) = true)
    (nd : PySem.W.mroIn K C (.type "collections.deque") = some false) (h : wpAny (model prog w) A (call (.ref g) [.ref x, i]) Q E s) : wpAny (model prog w) A (getItem (.ref x) i) Q E s := by
  unfold getItem
  refine wpAny_holding ?_
  refine wpAny_bind ((seqkey (M := model prog w) (k := i) X J nd).here ?_)
  refine wpAny_bind (spec (special X J hs) (PySem.W.bind_fn X _ (beq_iff_eq.mp hf)) (wpAny_mono h (fun v s' z => wpAny_pure z) fun _ _ z => z))
theorem setItem_own {i v : Value} {Q : Unit → Shared → Prop} (X : K.In s.heap) (J : PySem.W.InstAt s.heap x ox C od) (hs : PySem.W.findIn K (.ref C) "__setitem__" = some (some (.ref g))) (hf : PySem.W.isFn K (.ref g) = true)
    (nd : PySem.W.mroIn K C (.type "collections.deque") = some false) (h : wpAny (model prog w) A (call (.ref g) [.ref x, i, v]) (fun _ s' => Q () s') E s) : wpAny (model prog w) A (setItem (.ref x) i v) Q E s := by
  unfold setItem
  refine wpAny_holding ?_
  refine wpAny_bind ((seqkey (M := model prog w) (k := i) X J nd).here ?_)
  refine wpAny_bind (spec (special X J hs) (PySem.W.bind_fn X _ (beq_iff_eq.mp hf)) (wpAny_mono h (fun v s' z => wpAny_pure z) fun _ _ z => z))
theorem contains_own {i : Value} {Q : Bool → Shared → Prop} (X : K.In s.heap) (J : PySem.W.InstAt s.heap x ox C od) (hs : PySem.W.findIn K (.ref C) "__contains__" = some (some (.ref g))) (hf : PySem.W.isFn K (.ref g) = true)
    (h : wpAny (model prog w) A (call (.ref g) [.ref x, i]) (fun v s' => ∃ b, v = .bool b ∧ Q b s') E s) : wpAny (model prog w) A (contains (.ref x) i) Q E s := by
  unfold contains
  refine wpAny_holding ?_
  simp only [stdlibNamesSay?]
  refine wpAny_bind ((special X J hs).here ?_)
  have ne : ((some (Value.ref g)) == some Value.none) = false := rfl
  rw [ne]
  simp only [Bool.false_eq_true, if_false]
  have main : ∀ t : Sem Value, wpAny (model prog w) A (callSpecialUnlessNone? (.ref x) (Str.ofString "__contains__") [i] t) (fun r s' => ∃ b, r = some (.bool b) ∧ Q b s') E s := fun t => by
    simp only [callSpecialUnlessNone?]
    refine wpAny_bind ((special X J hs).here ?_)
    refine wpAny_holding (wpAny_bind ((PySem.W.bind_fn X _ (beq_iff_eq.mp hf)).here ?_))
    have ng : ((Value.ref g) == Value.none) = false := rfl
    simp only [ng, Bool.false_eq_true, if_false]
    refine wpAny_bind (wpAny_mono h (fun v s' z => ?_) fun _ _ z => z)
    obtain ⟨b, rfl, q⟩ := z
    exact wpAny_pure ⟨b, rfl, q⟩
  refine wpAny_bind (wpAny_mono (main _) (fun r s' z => ?_) fun _ _ z => z)
  obtain ⟨b, rfl, q⟩ := z
  exact wpAny_truthy_bool q
theorem fills_own {h : Heap} {nm : String} {cd : ClassData} {rest : List Value} {b : Bool} (X : K.In h) (hc : PySem.W.clsIn K C = some cd) (hm : cd.mro = .ref C :: rest) (hs : PySem.W.findIn K (.ref C) (dunderI nm) = some (some (.ref g))) :
    PySem.W.Looks M h (fillsInplaceSlot (.ref C) nm b) true := by
  intro A Q E s kp q
  unfold fillsInplaceSlot
  dsimp only
  have lm : PySem.W.Looks M h (mroOf (.ref C)) cd.mro := (PySem.W.looks_clsIn X hc).andThen (f := fun cd => pure cd.mro) .now
  refine wpAny_bind (lm A _ E s kp ?_)
  rw [hm]
  simp only [List.anyM]
  refine wpAny_bind (wpAny_bind ((PySem.W.looks_findIn X hs) A _ E s kp ?_))
  have hw : ownNameWrapper (.ref g) (dunderI nm) = false := rfl
  simp only [hw, Bool.not_false, if_true]
  exact wpAny_pure (wpAny_pure q)
theorem iand_own {y : Value} {op : Operator} {cd : ClassData} {rest : List Value} {Q : Value → Shared → Prop} (X : K.In s.heap) (J : PySem.W.InstAt s.heap x ox C od) (hc : PySem.W.clsIn K C = some cd) (hm : cd.mro = .ref C :: rest)
    (hs : PySem.W.findIn K (.ref C) (dunderI op.info.2) = some (some (.ref g))) (hf : PySem.W.isFn K (.ref g) = true)
    (h : wpAny (model prog w) A (call (.ref g) [.ref x, y]) (fun v s' => v ≠ .notImplemented ∧ Q v s') E s) : wpAny (model prog w) A (inplaceOp op (.ref x) y) Q E s := by
  unfold inplaceOp
  refine wpAny_holding ?_
  dsimp only
  refine wpAny_bind (J.type.here ?_)
  refine wpAny_bind ((fills_own (M := model prog w) (nm := op.info.2) X hc hm hs).here ?_)
  simp only [if_true]
  have main : wpAny (model prog w) A (tryMethod (.ref x) (dunderI op.info.2) y) (fun r s' => ∃ v, r = some v ∧ Q v s') E s := by
    unfold tryMethod
    refine wpAny_bind (spec (special X J hs) (PySem.W.bind_fn X _ (beq_iff_eq.mp hf)) (wpAny_mono h (fun v s' z => ?_) fun _ _ z => z))
    obtain ⟨n, q⟩ := z
    cases v <;> first | exact (n rfl).elim | exact wpAny_pure ⟨_, rfl, q⟩
  refine wpAny_bind (wpAny_mono main (fun r s' z => ?_) fun _ _ z => z)
  obtain ⟨v, rfl, q⟩ := z
  exact wpAny_bind (wpAny_rule (wpAny_pure q))
end
end OWN

/-! Own operators of a plain class as rules: o[i], o[i] = v, x in o, o &= p; list(o) and for x in o where __iter__ says iter of a dict. -/
namespace OWN
open PySem PySem.Spec PyProof.Rows L2
section
variable {X : Cx} {CX : CXT} {C g : Addr} {n : Nat} {sp : Sp} {E : XK} {ES : L2.St → XK}
abbrev ownF {P : Program} {w : World} {K : PySem.W.Frag} {mg : Str → Option Value} {base : Heap} {CX : CXT} {k : Nat} {f : Addr} {fd : FuncData} {ps : List Str} {sp : Sp} (F : FnOk P w K mg base CX k f fd ps sp) (b : Binds K fd ps []) : FnR P w K mg base CX k f (fun vs H Q E => sp (vs ++ []) H Q E) := F.raw b .nil
/-- the callee runs, what is raised wished for at the slots -/
theorem run_fnRS {pins : List (Addr × Obj)} {σ : L2.St} {H : Hp} {s : Shared} {Q : VK} {us : List Value} {vs : List V} (F : FnR X.prog X.w X.K X.mg X.base CX n g sp) (hr : Room n X.A) (hx : PassesAt CX X σ (ES σ)) (I : Inv X pins σ H s) (r : Vals vs us) (h : sp vs H Q (ES σ)) :
    wpAny (model X.prog X.w) X.A (call (.ref g) us) (EP X pins σ Q) X.xe s := by
  refine wpAny_call (codeAny_mono (F X.A X.stack s H us vs Q (ES σ) hr I.env0 r h) fun r s' hq => ?_)
  cases r with
  | error e => exact hx pins H s e s' I hq
  | ok fl =>
    cases fl with
    | ret u => exact I.after hq
    | next => exact False.elim hq
    | brk => exact False.elim hq
    | cont => exact False.elim hq
theorem passAll (hx : Passes CX X E) (σ : L2.St) : PassesAt CX X σ E := fun pins H s e s' I c => hx pins σ H s e s' I c
def rOwn2 (C : Addr) (sp : Sp) (E : XK) : R2 := fun x y H Q => ∃ a dx fs, x = .ref a ∧ H a = some (.ins C dx fs) ∧ sp [x, y] H Q E
/-- the callee runs within a built-in -/
theorem run_in1 {pins : List (Addr × Obj)} {σ : L2.St} {H : Hp} {s : Shared} {Q : VK} {us : List Value} {vs : List V} (F : FnR X.prog X.w X.K X.mg X.base CX n g sp) (hr : Room (n + 1) X.A) (hx : PassesAt CX X σ (ES σ)) (I : Inv X pins σ H s) (r : Vals vs us) (h : sp vs H Q (ES σ)) :
    wpAny (model X.prog X.w) X.A.in1 (call (.ref g) us) (EP X pins σ Q) X.xe s := by
  refine wpAny_call (codeAny_mono (F X.A.in1 X.stack s H us vs Q (ES σ) hr.in1 I.env0.in1 r h) fun r s' hq => ?_)
  cases r with
  | error e => exact hx pins H s e s' I hq
  | ok fl =>
    cases fl with
    | ret u => exact I.after hq
    | next => exact False.elim hq
    | brk => exact False.elim hq
    | cont => exact False.elim hq
/-- what stands as an index where the object's own def is asked -/
def OwnIx (b : Expr) : Prop := ∀ o i, subscripted b true o i = runValue (.builtin "lifetime.subscript" ⟨[o, i], []⟩)
/-- o[i], o an instance of an own class with __getitem__ -/
def tIxO (C : Addr) (sp : Sp) (ES : L2.St → XK) (ta tb : TE) : TE := fun σ H Q => ta σ H fun x H1 => tb σ H1 fun y H2 => rOwn2 C sp (ES σ) x y H2 Q
theorem pe_ixO {a b : Expr} {ta tb : TE} {pos : Pos} (m : Meth X.K C "__getitem__" g) (fi : PySem.W.fnIn X.K g = true) (F : FnR X.prog X.w X.K X.mg X.base CX n g sp) (hr : Room (n + 1) X.A) (hx : ∀ σ, PassesAt CX X σ (ES σ))
    (ha : PE X a ta) (hb : PE X b tb) (hs : OwnIx b) : PE X (.Subscript a b pos) (tIxO C sp ES ta tb) := by
  refine ⟨fun pins s σ H Q I h => ?_⟩
  refine Subscript_ (binT (R := fun x y H2 => rOwn2 C sp (ES σ) x y H2 Q) ha hb I h fun v u s2 x y H2 I2 rx ry q => ?_)
  obtain ⟨a, dx, fs, rfl, ha, q⟩ := q
  obtain rfl : v = Value.ref a := rx
  obtain ⟨mA, O, _⟩ := ins_get I2.hok ha
  obtain ⟨od, J, _⟩ := O.look
  obtain ⟨m0, hF⟩ := I2.fr
  exact PySem.W.sub_K hF I2.ok.mod.kin J m.at_ fi m.fn (run_in1 (us := [.ref a, u]) (vs := [.ref a, y]) F hr (hx σ) I2 (.cons rfl (.cons ry .nil)) q) (hs _ _)
/-- o[i] = v -/
def rSetO (C : Addr) (sp : Sp) (E : XK) : TSet := fun o i v H Q => ∃ a dx fs, o = .ref a ∧ H a = some (.ins C dx fs) ∧ sp [o, i, v] H (fun _ H' => Q H') E
theorem set_run {pins : List (Addr × Obj)} {σ : L2.St} {H : Hp} {s : Shared} {o i v : V} {ov iv u : Value} {Q : Hp → Prop} (m : Meth X.K C "__setitem__" g) (nd : PySem.W.mroIn X.K C (.type "collections.deque") = some false)
    (F : FnR X.prog X.w X.K X.mg X.base CX n g sp) (hr : Room n X.A) (hx : PassesAt CX X σ (ES σ)) (I : Inv X pins σ H s) (ro : RelV o ov) (ri : RelV i iv) (rv : RelV v u) (h : rSetO C sp (ES σ) o i v H Q) :
    wpAny (model X.prog X.w) X.A (setItem ov iv u) (fun _ s' => ∃ H', Inv X pins σ H' s' ∧ Q H') X.xe s := by
  obtain ⟨a, dx, fs, rfl, ha, q⟩ := h
  obtain rfl : ov = Value.ref a := ro
  obtain ⟨mA, O, _⟩ := ins_get I.hok ha
  obtain ⟨od, J, _⟩ := O.look
  have run := run_fnRS (us := [.ref a, iv, u]) (vs := [.ref a, i, v]) F hr hx I (.cons rfl (.cons ri (.cons rv .nil))) q
  refine setItem_own I.kIn J m.at_ m.fn nd (wpAny_mono run (fun r s' z => ?_) fun _ _ z => z)
  obtain ⟨v', H', I', _, q'⟩ := z
  exact ⟨H', I', q'⟩
theorem set_own (m : Meth X.K C "__setitem__" g) (nd : PySem.W.mroIn X.K C (.type "collections.deque") = some false) (F : FnR X.prog X.w X.K X.mg X.base CX n g sp) (hr : Room n X.A) (hx : Passes CX X E) : PSet X (rSetO C sp E) := by
  intro pins s σ H o i v ov iv u Q I ro ri rv h
  exact set_run (ES := fun _ => E) m nd F hr (passAll hx σ) I ro ri rv h
/-- x in o -/
def rInO (C : Addr) (sp : Sp) (E : XK) (neg : Bool) : R2 := fun x y H Q => ∃ a dx fs, y = .ref a ∧ H a = some (.ins C dx fs) ∧ sp [y, x] H (fun v H' => ∃ b, v = .bl b ∧ Q (.bl (b != neg)) H') E
theorem op_in_own (m : Meth X.K C "__contains__" g) (F : FnR X.prog X.w X.K X.mg X.base CX n g sp) (hr : Room n X.A) (hx : Passes CX X E) : OpR X (compareOp .In) (rInO C sp E false) := by
  intro pins s σ H x y v u Q I rx ry h
  obtain ⟨a, dx, fs, rfl, ha, q⟩ := h
  obtain rfl : u = Value.ref a := ry
  obtain ⟨mA, O, _⟩ := ins_get I.hok ha
  obtain ⟨od, J, _⟩ := O.look
  have run := run_fnRS (ES := fun _ => E) (us := [.ref a, v]) (vs := [.ref a, x]) F hr (passAll hx σ) I (.cons rfl (.cons rx .nil)) q
  show wpAny _ _ (contains (.ref a) v >>= fun b => pure (Value.bool b)) _ _ s
  refine wpAny_bind (contains_own I.kIn J m.at_ m.fn (wpAny_mono run (fun r s' z => ?_) fun _ _ z => z))
  obtain ⟨v', H', I', rv, b, rfl, q'⟩ := z
  obtain rfl : r = Value.bool b := rv
  refine ⟨b, rfl, wpAny_pure ⟨.bl b, H', I', rfl, ?_⟩⟩
  cases b <;> exact q'
theorem op_notin_own (m : Meth X.K C "__contains__" g) (F : FnR X.prog X.w X.K X.mg X.base CX n g sp) (hr : Room n X.A) (hx : Passes CX X E) : OpR X (compareOp .NotIn) (rInO C sp E true) := by
  intro pins s σ H x y v u Q I rx ry h
  obtain ⟨a, dx, fs, rfl, ha, q⟩ := h
  obtain rfl : u = Value.ref a := ry
  obtain ⟨mA, O, _⟩ := ins_get I.hok ha
  obtain ⟨od, J, _⟩ := O.look
  have run := run_fnRS (ES := fun _ => E) (us := [.ref a, v]) (vs := [.ref a, x]) F hr (passAll hx σ) I (.cons rfl (.cons rx .nil)) q
  show wpAny _ _ (contains (.ref a) v >>= fun b => pure (Value.bool (!b))) _ _ s
  refine wpAny_bind (contains_own I.kIn J m.at_ m.fn (wpAny_mono run (fun r s' z => ?_) fun _ _ z => z))
  obtain ⟨v', H', I', rv, b, rfl, q'⟩ := z
  obtain rfl : r = Value.bool b := rv
  refine ⟨b, rfl, wpAny_pure ⟨.bl (!b), H', I', rfl, ?_⟩⟩
  cases b <;> exact q'
/-- o op= y -/
def rIpO (C : Addr) (sp : Sp) (E : XK) : TIp := fun x y H Q => ∃ a dx fs, x = .ref a ∧ H a = some (.ins C dx fs) ∧ sp [x, y] H Q E
theorem ip_own {op : Operator} (hs : PySem.W.findIn X.K (.ref C) (dunderI op.info.2) = some (some (.ref g))) (hf : PySem.W.isFn X.K (.ref g) = true) (hm : ∃ cd rest, PySem.W.clsIn X.K C = some cd ∧ cd.mro = .ref C :: rest)
    (F : FnR X.prog X.w X.K X.mg X.base CX n g sp) (hr : Room n X.A) (hx : Passes CX X E) : PIp X op (rIpO C sp E) := by
  intro pins s σ H x y v u Q I rx ry h
  obtain ⟨a, dx, fs, rfl, ha, q⟩ := h
  obtain ⟨cd, rest, hc, hm⟩ := hm
  obtain rfl : v = Value.ref a := rx
  obtain ⟨mA, O, _⟩ := ins_get I.hok ha
  obtain ⟨od, J, _⟩ := O.look
  have run := run_fnRS (ES := fun _ => E) (us := [.ref a, u]) (vs := [.ref a, y]) F hr (passAll hx σ) I (.cons rfl (.cons ry .nil)) q
  refine iand_own I.kIn J hc hm hs hf (wpAny_mono run (fun r s' z => ⟨?_, z⟩) fun _ _ z => z)
  obtain ⟨v', H', I', rv, q'⟩ := z
  rintro rfl
  cases v' with
  | int _ => obtain ⟨_, e⟩ := rv; cases e
  | str _ => obtain ⟨_, e⟩ := rv; cases e
  | byt _ => obtain ⟨_, e⟩ := rv; cases e
  | flt _ => obtain ⟨_, e⟩ := rv; cases e
  | _ => cases rv
end
end OWN

/-! list(o), o an instance whose __iter__ hands out an iterator over the keys of a (locked) dict. -/
namespace OWN
open PySem PySem.Spec PyProof.Rows L2
/-- at it an iterator over the keys of the dict at d -/
def KIt (d it : Addr) (n ep : Nat) : HO := .ext fun h => h.get? it = some { cls := .type "dict_keyiterator", data := .fields #[.ref d, .int 0 0, .int n 0, .int ep 0] }
def rIterK : List V → Hp → VK → Prop := fun xs H Q => ∃ (d : Addr) (o : Obj) (kvs : List (Key × V)), xs = [.ref d] ∧ H d = some (.frz o (.dK kvs)) ∧ ∀ it es ep, o.data = .dict es ep → H it = none → (∀ q o', H q = some o' → q < it) → Q (.ref it) (upd H it (KIt d it es.size ep))
section
variable {X : Cx} {CX : CXT} {C g : Addr} {n : Nat} {sp : Sp} {E : XK}
theorem call_iterK : CallR X (.builtin "iter") rIterK := by
  intro pins s σ H xs us Q I r h
  obtain ⟨d, o, kvs, rfl, hd, q⟩ := h
  obtain ⟨u, rfl, ru⟩ := vals1 r
  cases ru
  obtain ⟨hs, hgd, hx, es, ep, vs, hdt, hsz, kv, hm⟩ := I.frzK hd
  refine Calls.call_function_entry (by decide +kernel) (by decide +kernel) PySem.W.kdk_entry_iter (PySem.W.kdk_args_iter _) ?_
  unfold Builtin.«iter»
  refine wpAny_bind (m := someArgs "iter" 1 2 _) (wpAny_of_eq (a := [Value.ref d]) (by first | rfl | kernel_rfl!) ?_)
  show wpAny _ _ (pyIter (.ref d) >>= _) _ _ _
  refine wpAny_bind (iter_keys hs hgd hx hdt ?_)
  refine wpAny_pure ⟨_, rfl, ?_⟩
  have e : (s.heap.push { cls := .type "dict_keyiterator", data := .fields #[.ref d, .int 0 0, .int es.size 0, .int ep 0] }).get? s.heap.objs.size = some { cls := .type "dict_keyiterator", data := .fields #[.ref d, .int 0 0, .int es.size 0, .int ep 0] } := Heap.get?_push_size _ rfl
  exact ⟨.ref s.heap.objs.size, _, I.laid (t' := s.toks) (fun b u e => Heap.get?_push_of_some _ e) (Nat.le_refl _) (o := KIt d s.heap.objs.size es.size ep) ⟨e, ⟨_, e⟩, fun h1 h2 q k => k _ q⟩, rfl, q _ es ep hdt (I.hok.fresh (Nat.le_refl _)) fun b o' z => (I.hok b o' z).lt⟩
/-- what __iter__ is asked -/
def ItSp (sp : Sp) (a d : Addr) (o : Obj) (H : Hp) : Prop := ∀ Q : VK, (∀ it es ep, o.data = .dict es ep → H it = none → (∀ q o', H q = some o' → q < it) → Q (.ref it) (upd H it (KIt d it es.size ep))) → sp [.ref a] H Q E0
theorem kit_hint {M : Model} {A : Around} {E : Value → Shared → Prop} {s : Shared} {a : Addr} {Q : Bool → Shared → Prop} {K : PySem.W.Frag} {ox : Obj} {od : Option Obj} (nl : PySem.W.findIn K (.ref C) "__len__" = some none) (nh : PySem.W.findIn K (.ref C) "__length_hint__" = some none)
    (hK : K.In s.heap) (J : PySem.W.InstAt s.heap a ox C od) (h : Q true s) : wpAny M A (Builtin.List.listLengthHint (.ref a)) Q E s := by
  unfold Builtin.List.listLengthHint
  refine wpAny_bind (wpAny_bind (J.type.here ((PySem.W.looks_findIn hK nl).here ?_)))
  refine PySem.W.KFB.if_not rfl ?_
  refine PySem.W.KFB.if_not rfl ?_
  refine wpAny_bind (wpAny_bind (J.type.here ((PySem.W.looks_findIn hK nh).here ?_)))
  exact wpAny_pure h
def rListK (C : Addr) (sp : Sp) : List V → Hp → VK → Prop := fun xs H Q => ∃ a dx fs d o kvs, xs = [.ref a] ∧ H a = some (.ins C dx fs) ∧ H d = some (.frz o (.dK kvs)) ∧
  (∀ H', Same H H' → ItSp sp a d o H') ∧ ∀ q, H q = none → Q (.ref q) (upd H q (.lst (kvs.map fun kv => kV kv.1)))
theorem call_listK (hc : X.calm = true) (m : Meth X.K C "__iter__" g) (nl : PySem.W.findIn X.K (.ref C) "__len__" = some none) (nh : PySem.W.findIn X.K (.ref C) "__length_hint__" = some none)
    (F : FnR X.prog X.w X.K X.mg X.base CX0 n g sp) (hr : Room (n + 2) X.A) : CallR X (.type "list") (rListK C sp) := by
  intro pins s σ H xs us Q I rv h
  obtain ⟨a, dx, fs, d, o, kvs, rfl, ha, hd, hit, hq⟩ := h
  obtain ⟨u, rfl, ru⟩ := rv.one
  cases ru
  refine callType_codes (Q₁ := fun obj s₁ => obj = .ref s.heap.objs.size ∧ s₁ = { s with heap := s.heap.push { cls := .type "list", data := .seq #[] } }) PySem.F.called_list (PySem.F.typeCall_list_1 _) PySem.F.entry_list_init
    (code_list_new _ ⟨rfl, rfl⟩) fun obj s₁ h₁ => ?_
  obtain ⟨rfl, rfl⟩ := h₁
  have hS : (s.heap.push { cls := .type "list", data := .seq #[] }).get? s.heap.objs.size = some { cls := .type "list", data := .seq #[] } := Heap.get?_push_size _ rfl
  refine ⟨⟨_, hS, rfl⟩, PySem.F.args_list_init_2 _ _, ?_⟩
  have fr : H s.heap.objs.size = none := I.hok.fresh (Nat.le_refl _)
  have I1 : Inv X pins σ (upd H s.heap.objs.size (.lst [])) { s with heap := s.heap.push { cls := .type "list", data := .seq #[] } } := I.lnew (its := []) (t' := s.toks) .nil (Nat.zero_le _)
  show wpAny _ _ (do let old ← Builtin.List.listItems (.ref s.heap.objs.size); Builtin.List.listUpdate (.ref s.heap.objs.size) (fun _ => #[]); letGo old.toList.reverse; Builtin.List.listExtendWith (.ref s.heap.objs.size) (.ref a) .none) _ _ _
  refine wpAny_bind ?_
  unfold Builtin.List.listItems
  refine wpAny_bind (wpAny_seqItems hS rfl (wpAny_pure ?_))
  show wpAny _ _ (updateSeq s.heap.objs.size (fun _ => #[]) >>= fun _ => letGo (#[] : Array Value).toList.reverse >>= fun _ => Builtin.List.listExtendWith (.ref s.heap.objs.size) (.ref a) .none) _ _ _
  refine wpAny_bind (wpAny_updateSeq hS rfl ?_)
  have I2 := I1.lset (f := fun _ => #[]) (its := []) (its' := []) (ys := []) (t' := s.toks) upd_same hS rfl .nil (Nat.zero_le _)
  rw [upd_upd] at I2
  refine wpAny_bind (wpAny_letGo ?_)
  generalize hS0 : s.heap.objs.size = S at *
  have smS : Same H (upd H S (.lst [])) := fun b o z => by rw [upd_ne (ne_of_none z fr)]; exact z
  have ha2 := smS _ _ ha
  have hd2 := smS _ _ hd
  revert I2
  generalize ({ s with heap := _, toks := _ } : Shared) = s2
  intro I2
  have hne : S ≠ a := fun z => by rw [← z, fr] at ha; cases ha
  obtain ⟨mA, J, _⟩ := ins_get I2.hok ha2
  obtain ⟨od, J, _⟩ := J.look
  obtain ⟨m0, hF⟩ := I2.fr
  unfold Builtin.List.listExtendWith
  refine wpAny_bind (J.type.here ?_)
  have h1 : Builtin.List.listSameRef (.ref S) (.ref a) = false := by simp [Builtin.List.listSameRef, hne]
  have h2 : (Value.ref C == Value.type "list") = false := rfl
  have h3 : (Value.ref C == Value.type "tuple") = false := rfl
  simp only [h1, h2, h3, Bool.or_false, Bool.false_eq_true, if_false]
  refine wpAny_bind (PySem.W.owit_iter hF I2.ok.mod.kin J m.at_ m.fn ?_)
  have e0 : Env0 X.prog X.w X.K X.mg X.base X.A.in1.in1 X.stack s2 (upd H S (.lst [])) := I2.env0.in1.in1
  have run := F X.A.in1.in1 X.stack s2 (upd H S (.lst [])) [.ref a] [.ref a] (fun v H' => ∃ it es ep, v = .ref it ∧ o.data = .dict es ep ∧ upd H S (.lst []) it = none ∧ S < it ∧ H' = upd (upd H S (.lst [])) it (KIt d it es.size ep)) E0 hr.in1.in1 e0 (.cons rfl .nil)
    (hit _ smS _ fun it es ep h1 h2 h3 => ⟨it, es, ep, rfl, h1, h2, h3 S _ upd_same, rfl⟩)
  refine wpAny_call (codeAny_mono run fun r s3 hq' => ?_)
  cases r with
  | error e => exact False.elim hq'
  | ok fl =>
  cases fl with
  | next => exact False.elim hq'
  | brk => exact False.elim hq'
  | cont => exact False.elim hq'
  | ret u =>
  obtain ⟨v, H', I3, rv3, it, es, ep, rfl, hdt, nit, hlt, rfl⟩ := I2.after hq'
  cases rv3
  have hit3 : s3.heap.get? it = some { cls := .type "dict_keyiterator", data := .fields #[.ref d, .int 0 0, .int es.size 0, .int ep 0] } := (I3.hok it _ upd_same).1
  have hT : s3.TypeIs (.ref it) "dict_keyiterator" := ⟨_, hit3, rfl⟩
  have fp := ItX.inv_fp I3 (a := it) upd_same (Nat.le_trans (hS0 ▸ I.sz) (Nat.le_of_lt hlt))
  have I4 := ItX.inv_drop I3 (a := it) upd_same
  rw [ItX.dropH_upd nit] at I4 fp
  unfold PySem.W.OwitIt
  refine wpAny_specialOf (name := Str.ofString "__next__") hT PySem.F.slot_dict_keyiterator_next.lookup ?_
  obtain ⟨mA', J', _⟩ := ins_get I4.hok ha2
  obtain ⟨od', J', _⟩ := J'.look
  refine wpAny_bind (wpAny_holding (kit_hint nl nh I4.kIn J' ?_))
  obtain ⟨hs, hgd, hx, es', ep', vs, hdt', hsz, kv, hm⟩ := I4.frzK hd2
  rw [hdt] at hdt'
  cases hdt'
  obtain ⟨z, its, k, r3, hl3, e3⟩ := I4.lstM (show upd H S (.lst []) S = some (.lst []) from upd_same)
  cases r3
  have hdit : d ≠ it := fun z => by rw [z, nit] at hd2; cases hd2
  have hSit : S ≠ it := fun z => by rw [← z, upd_same] at nit; cases nit
  have hSd : S ≠ d := fun z => by rw [← z, fr] at hd; cases hd
  have hl : kvs.length = vs.length := Paired.length kv
  have hn : es.size = vs.length := hsz.trans hl
  have W := PySem.Walks.dictKeys (knd := mixKind X.prog X.w) (A := X.A.in1.in1) (I.ok.hd hc) it d hdit vs ep
  have key : ∀ (s5 : Shared) (c5 : Nat), Inv X pins σ (upd H S (.lst [])) s5 → s5.heap.get? it = some { cls := .type "dict_keyiterator", data := .fields #[.ref d, .int 0 0, .int es.size 0, .int ep 0] } → s5.heap.get? S = some { cls := .type "list", dict := none, data := .seq #[] c5, slots := #[] } →
      codeAny (model X.prog X.w) X.A.in1 (.builtin "list.extend.loop" ⟨[.ref S, .ref it, .none], []⟩) (wants (fun r s₂ => r = .none ∧ EP X pins σ Q (.ref S) s₂) X.xe) s5 := by
    intro s5 c5 I5 hit5 hS5
    obtain ⟨_, _, _, es5, ep5, vs5, hdt5, _, _, hm5⟩ := I5.frzK hd2
    have hzs : vs.length ≤ sizeLine := by
      obtain ⟨_, z2, _⟩ := I4.hok d _ hd2
      rw [← hl]
      exact z2
    have hm5' : s5.heap.DictAt (mixKind X.prog X.w) d vs ep := by
      obtain ⟨o1, es1, ho1, hx1, hd1, r1⟩ := hm
      obtain ⟨_, hgd5, _⟩ := I5.frzK hd2
      rw [hgd] at ho1
      cases ho1
      exact ⟨o, es1, hgd5, hx1, hd1, r1⟩
    rw [hn] at hit5
    refine codeAny_extend_loopS W.toS hzs S (by simp only [List.mem_cons, List.not_mem_nil, or_false, not_or]; exact ⟨hSit, hSd⟩) .none vs.length 0 s5 #[] c5 rfl (Nat.zero_le _) ⟨⟨_, hit5, rfl, rfl⟩, hm5'⟩ hS5 (ItemsOf.nil _) fun s6 acc' c6 hm6 hS6 hacc => ?_
    show (Value.none = Value.none ∧ EP X pins σ Q (.ref S) s6)
    refine ⟨rfl, .ref S, upd H S (.lst (kvs.map fun kv => kV kv.1)), ?_, rfl, hq S fr⟩
    have hval : Vals (kvs.map fun kv => kV kv.1) acc'.toList := by
      have el : acc'.toList.length = acc'.size := by simp
      refine vals_of_at (by rw [List.length_map, el, hacc.1, hl]) fun j x w h1 h2 => ?_
      obtain ⟨k, y, hky, hi⟩ := hacc.2 j w (by rw [← Array.getElem?_toList]; exact h2)
      have e1 : (kvs.map (·.1))[j]? = some k := by
        rw [KV.keys kv, List.getElem?_map, hky] <;> rfl
      have e2 : (kvs.map fun kv => kV kv.1)[j]? = some (kV k) := by
        have e3 : (kvs.map fun kv => kV kv.1) = (kvs.map (·.1)).map kV := by rw [List.map_map] <;> rfl
        rw [e3, List.getElem?_map, e1] <;> rfl
      rw [e2] at h1
      cases h1
      exact keyIs_rel hi
    rw [Moved.eq_with hm6]
    have fp6 : ∀ b ∈ [it], FpOk X pins (upd H S (.lst [])) b := fun b hb => by
      rw [List.mem_singleton.mp hb]
      exact fp
    let back : Obj → Obj := fun _ => { cls := .type "list", dict := none, data := .seq #[] c5, slots := #[] }
    have qS : (s6.heap.update S back).get? S = some { cls := .type "list", dict := none, data := .seq #[] c5, slots := #[] } := Heap.get?_update_self back hS6 rfl
    have qN : ∀ b, b ≠ S → (s6.heap.update S back).get? b = s6.heap.get? b := fun b h => Heap.get?_update_other _ _ (Ne.symm h)
    have I6 := Inv.turnedL (h' := s6.heap.update S back) (t' := s6.toks) I5 (ch := [it]) (fun b o hb e => by
      by_cases h : b = S
      · rw [h] at e ⊢
        rw [hS5] at e
        rw [qS]
        exact e
      · rw [qN b h]
        exact hm6.heap b o (by simp only [List.mem_cons, List.not_mem_nil, or_false, not_or]; exact ⟨h, fun z => hb (by rw [z]; simp)⟩) e) fp6
    have I7 := I6.write (h' := s6.heap) (t' := s6.toks) (x := S) (e := S) (o := .lst (kvs.map fun kv => kV kv.1)) (by rw [upd_same]; exact trivial) (.inl rfl) (fun b u hb e => by
      have e' : (s6.heap.update S back).get? b = some u := e
      rw [qN b hb] at e'
      exact e') ⟨_, hS6⟩ ⟨by rw [List.length_map, hl]; exact hzs, acc'.toList, c6, hval, by rw [Array.toArray_toList]; exact hS6⟩
    rw [upd_upd] at I7
    exact I7
  have hc1 : (true || _root_.Array.any #[] fun (_ : Nat) => true) = true := rfl
  simp only [Bool.true_or, if_true]
  refine wpAny_bind (wpAny_rule ?_)
  refine wpAny_bind ?_
  show wpAny _ _ (updateSeq S (·.push .none) >>= fun _ => updateSeq S (·.pop)) _ _ _
  refine wpAny_bind (wpAny_updateSeq e3 rfl ?_)
  have I5 := I4.lset (f := (·.push Value.none)) (its' := [Value.none]) (ys := [.non]) (t' := s3.toks) upd_same e3 (by simp) (.cons rfl .nil) (by rw [List.length_singleton, sizeLine_eq]; decide)
  rw [upd_upd] at I5
  obtain ⟨z4, its4, k4, r4, hl4, e4⟩ := I5.lstM upd_same
  obtain ⟨u4, rfl, ru4⟩ := r4.one
  refine wpAny_updateSeq e4 rfl ?_ (by show 1 ≤ sizeLine; rw [sizeLine_eq]; decide) (by show 0 ≤ sizeLine + 1; exact Nat.zero_le _)
  have I6 := I5.lset (f := (·.pop)) (its := [u4]) (its' := []) (ys := []) (t' := s3.toks) upd_same e4 (by rfl) .nil (Nat.zero_le _)
  rw [upd_upd] at I6
  have hS₂ := Heap.get?_update_self (Obj.mapSeq (·.push Value.none)) e3 rfl
  have hS₃ := Heap.get?_update_self (Obj.mapSeq (·.pop)) hS₂ rfl
  refine wpAny_pure ⟨plainId_quiet PySem.F.plain_extend_loop _, key _ _ I6 ?_ hS₃⟩
  exact (Heap.get?_update_other _ _ hSit).trans ((Heap.get?_update_other _ _ hSit).trans hit3)
end
end OWN

/-! Books, apart from any law: the entries, their answers, dicts of texts by key lists and functions. -/
namespace BK
open PySem L2
abbrev ENT : List Str := ["read late", "read under", "read below", "read above", "write late", "write under", "write below", "write above", "write free passed", "write own passed", "write late passed", "write under passed", "write below passed", "write above passed"]
def chs (e : Str) : List Str :=
  if e = "read late" then ["last", "old", "abort"] else if e = "read under" then ["last", "old", "open", "wait", "abort"]
  else if e = "read below" ∨ e = "read above" then ["last", "open", "wait", "abort"] else if e = "write free passed" ∨ e = "write own passed" then ["put", "abort"]
  else if e = "write late" ∨ e = "write late passed" then ["skip", "abort"] else ["skip", "wait", "wound", "abort"]
theorem ent_nodup : ENT.Nodup := by decide +kernel
theorem ent_len : ENT.length = 14 := rfl
theorem chs_len (e : Str) : (chs e).length ≤ 5 ∧ 0 < (chs e).length := by
  unfold chs
  repeat' split
  all_goals decide
/-! ### membership by values -/
theorem eqV_str (a b : Str) : eqV (.str a) (.str b) = decide (a = b) := by
  show (a == b) = _
  by_cases h : a = b
  · subst h; simp
  · rw [decide_eq_false h]; exact beq_eq_false_iff_ne.mpr h
theorem inV_str (e : Str) (L : List Str) : inV (.str e) (L.map V.str) = decide (e ∈ L) := by
  unfold inV
  rw [List.any_map]
  by_cases h : e ∈ L
  · rw [decide_eq_true h, List.any_eq_true]
    exact ⟨e, h, by show eqV (.str e) (.str e) = true; rw [eqV_str]; exact decide_eq_true rfl⟩
  · rw [decide_eq_false h, List.any_eq_false]
    intro y hy z
    have z' : eqV (.str y) (.str e) = true := z
    rw [eqV_str] at z'
    exact h (of_decide_eq_true z' ▸ hy)
theorem inV_not {v : V} {L : List Str} (h : ∀ e, v = .str e → e ∉ L) : inV v (L.map V.str) = false := by
  cases v with
  | str e => rw [inV_str]; exact decide_eq_false (h e rfl)
  | _ => unfold inV; rw [List.any_map, List.any_eq_false]; intro y _ z; exact absurd z (by simp [eqV])
theorem flat_strs (L : List Str) : (L.map V.str).all flatV = true := by
  rw [List.all_eq_true]
  intro v hv
  obtain ⟨e, _, rfl⟩ := List.mem_map.mp hv
  rfl
/-! ### dicts from texts: their keys in order, and a function -/
def tab {α : Type} (g : α → V) (L : List Str) (f : Str → α) : List (Key × V) := L.map fun e => (Sum.inr e, g (f e))
def put {α : Type} (f : Str → α) (e : Str) (a : α) : Str → α := fun x => if x = e then a else f x
section
variable {α : Type} {g : α → V} {L : List Str} {f : Str → α} {e : Str} {a : α}
theorem put_same : put f e a e = a := if_pos rfl
theorem put_ne {x : Str} (h : x ≠ e) : put f e a x = f x := if_neg h
theorem tab_len : (tab g L f).length = L.length := List.length_map ..
theorem val_tab : ∀ {L : List Str}, valV (tab g L f) (Sum.inr e) = if e ∈ L then some (g (f e)) else none
  | [] => rfl
  | y :: L => by
    have ih := val_tab (L := L)
    unfold valV tab at ih ⊢
    rw [List.map_cons, List.find?_cons]
    by_cases h : y = e
    · subst h
      have d : decide ((Sum.inr y : Key) = Sum.inr y) = true := decide_eq_true rfl
      simp only [d]
      rw [if_pos (List.mem_cons_self ..)] <;> rfl
    · have d : decide ((Sum.inr y : Key) = Sum.inr e) = false := decide_eq_false fun q => h (Sum.inr.inj q)
      simp only [d]
      rw [ih]
      by_cases h2 : e ∈ L
      · rw [if_pos h2, if_pos (List.mem_cons_of_mem _ h2)]
      · rw [if_neg h2, if_neg fun z => (List.mem_cons.mp z).elim (fun q => h q.symm) h2]
theorem val_in (h : e ∈ L) : valV (tab g L f) (Sum.inr e) = some (g (f e)) := by rw [val_tab, if_pos h]
theorem val_out (h : e ∉ L) : valV (tab g L f) (Sum.inr e) = none := by rw [val_tab, if_neg h]
theorem any_tab : ((tab g L f).any fun kv => decide (kv.1 = Sum.inr e)) = decide (e ∈ L) := by
  unfold tab
  rw [List.any_map]
  by_cases h : e ∈ L
  · rw [decide_eq_true h, List.any_eq_true]
    exact ⟨e, h, decide_eq_true rfl⟩
  · rw [decide_eq_false h, List.any_eq_false]
    intro y hy z
    exact h (Sum.inr.inj (of_decide_eq_true z) ▸ hy)
theorem put_in (h : e ∈ L) : putK (tab g L f) (Sum.inr e) (g a) = tab g L (put f e a) := by
  unfold putK
  rw [any_tab, decide_eq_true h, if_pos rfl]
  unfold tab
  rw [List.map_map]
  refine List.map_congr_left fun y _ => ?_
  show (if (Sum.inr y : Key) = Sum.inr e then ((Sum.inr y : Key), g a) else (Sum.inr y, g (f y))) = (Sum.inr y, g (put f e a y))
  by_cases q : y = e
  · subst q
    rw [if_pos rfl, put_same]
  · rw [if_neg fun z => q (Sum.inr.inj z), put_ne q]
theorem put_new (h : e ∉ L) : putK (tab g L f) (Sum.inr e) (g a) = tab g (L ++ [e]) (put f e a) := by
  unfold putK
  rw [any_tab, decide_eq_false h, if_neg Bool.false_ne_true]
  unfold tab
  rw [List.map_append]
  have e1 : L.map (fun x => ((Sum.inr x : Key), g (f x))) = L.map (fun x => ((Sum.inr x : Key), g (put f e a x))) :=
    List.map_congr_left fun y hy => by rw [put_ne (x := y) fun q : y = e => h (q ▸ hy)]
  rw [e1]
  have e2 : [e].map (fun x => ((Sum.inr x : Key), g (put f e a x))) = [(Sum.inr e, g a)] := by
    show [((Sum.inr e : Key), g (put f e a e))] = _
    rw [put_same]
  rw [e2]
theorem tab_congr {f' : Str → α} (h : ∀ x ∈ L, f x = f' x) : tab g L f = tab g L f' := List.map_congr_left fun y hy => by rw [h y hy]
end
/-- a table of texts -/
abbrev tabS (L : List Str) (f : Str → Str) : List (Key × V) := tab V.str L f
theorem upd_swap {H : Hp} {a d : Addr} {o1 o2 o3 : HO} (h : d ≠ a) : upd (upd (upd H d o1) a o2) d o3 = upd (upd H d o3) a o2 := by
  funext b
  by_cases h1 : b = d
  · subst h1
    rw [upd_same, upd_ne h, upd_same]
  · rw [upd_ne h1]
    by_cases h2 : b = a
    · subst h2
      rw [upd_same, upd_same]
    · rw [upd_ne h2, upd_ne h2, upd_ne h1, upd_ne h1]
/-- d[k], d a written dict with text keys -/
def rIxKd (K : PySem.W.Frag) (d : Addr) : R2 := fun x y H Q => ∃ (z : Str) (u0 : Value) (v0 : V), x = .ref d ∧ y = .str z ∧ PySem.W.nsIn K d z = some (some u0) ∧ RelV v0 u0 ∧ Q v0 H
theorem ix_kd {X : Cx} {d : Addr} {es : Array DictEntry} {n : Nat} (D : KDict X.K X.w d es n) : IxR X (rIxKd X.K d) := by
  intro value slice pins s σ H x y v u Q I rx ry h hs
  obtain ⟨z, u0, v0, rfl, rfl, e, r, q⟩ := h
  obtain rfl : v = Value.ref d := rx
  obtain ⟨t, rfl⟩ := ry
  exact PyProof.Rows.tail_any (kd_type D I) slot_dict_getitem.lookup (wpAny_getItem_of (PySem.strKind_is X.prog X.w z t) (PySem.W.mapOf_K (prog := X.prog) I.kIn D.at_ D.lit) (PySem.W.find_K D.at_ e) ⟨v0, H, I.tok _, r, q⟩) hs
/-! ### the pairs of a given dict -/
def isAnsB (e : Str) : V → Bool
  | .str a => decide (a ∈ chs e)
  | _ => false
def okPair (q : Str × V) : Bool := decide (q.1 ∈ ENT) && isAnsB q.1 q.2
def fill : List (Str × V) → (Str → Str) → (Str → Str)
  | [], f => f
  | (e, .str a) :: r, f => fill r (put f e a)
  | (_, _) :: r, f => fill r f
def prs (gv : List (Str × V)) : List (Key × V) := gv.map fun q => (Sum.inr q.1, q.2)
theorem prs_len (gv : List (Str × V)) : (prs gv).length = gv.length := List.length_map ..
theorem prs_at {gv : List (Str × V)} {i : Nat} {k : Key} {v : V} (h : (prs gv)[i]? = some (k, v)) : ∃ e, gv[i]? = some (e, v) ∧ k = Sum.inr e := by
  unfold prs at h
  rw [List.getElem?_map] at h
  cases q : gv[i]? with
  | none => rw [q] at h; cases h
  | some p =>
    rw [q] at h
    cases h
    exact ⟨p.1, rfl, rfl⟩
theorem fill_snoc : ∀ {gv : List (Str × V)} {e a : Str} {f : Str → Str}, fill (gv ++ [(e, .str a)]) f = put (fill gv f) e a
  | [], _, _, _ => rfl
  | (e', .str a') :: r, e, a, f => fill_snoc (gv := r) (f := put f e' a')
  | (e', .non) :: r, e, a, f => fill_snoc (gv := r) (f := f)
  | (e', .bl _) :: r, e, a, f => fill_snoc (gv := r) (f := f)
  | (e', .int _) :: r, e, a, f => fill_snoc (gv := r) (f := f)
  | (e', .byt _) :: r, e, a, f => fill_snoc (gv := r) (f := f)
  | (e', .flt _) :: r, e, a, f => fill_snoc (gv := r) (f := f)
  | (e', .ref _) :: r, e, a, f => fill_snoc (gv := r) (f := f)
  | (e', .ty _) :: r, e, a, f => fill_snoc (gv := r) (f := f)
theorem fill_tab {L : List Str} (hL : L.Nodup) {t f : Str → Str} : ∀ x, fill (L.map fun e => (e, V.str (t e))) f x = if x ∈ L then t x else f x := by
  induction L generalizing f with
  | nil => intro x; rfl
  | cons e r ih =>
    intro x
    have nd := List.nodup_cons.mp hL
    show fill (r.map fun e => (e, V.str (t e))) (put f e (t e)) x = _
    rw [ih nd.2]
    by_cases h : x ∈ r
    · rw [if_pos h, if_pos (List.mem_cons_of_mem _ h)]
    · rw [if_neg h]
      by_cases q : x = e
      · subst q
        rw [put_same, if_pos (List.mem_cons_self ..)]
      · rw [put_ne q, if_neg fun z => (List.mem_cons.mp z).elim q h]
theorem tabS_prs {L : List Str} {f : Str → Str} : tabS L f = prs (L.map fun e => (e, V.str (f e))) := by
  unfold tabS tab prs
  rw [List.map_map]
  rfl
/-! ### books -/
/-- at b a book with the answers f, ends e, keep k; its own dict at dx, the answers' dict at d -/
structure Bk (C : Addr) (H : Hp) (b dx d : Addr) (f : Str → Str) (e : Str) (k : Int) : Prop where
  ins : H b = some (.ins C dx [(("_ends" : Str), .str e), (("_keep" : Str), .int k), (("_answers" : Str), .ref d)])
  tbl : H d = some (.dK (tabS ENT f))
theorem Bk.same {C : Addr} {H H' : Hp} {b dx d : Addr} {f : Str → Str} {e : Str} {k : Int} (h : Bk C H b dx d f e k) (s : Same H H') : Bk C H' b dx d f e k := ⟨s _ _ h.ins, s _ _ h.tbl⟩
theorem Bk.ne {C : Addr} {H : Hp} {b dx d : Addr} {f : Str → Str} {e : Str} {k : Int} (h : Bk C H b dx d f e k) : b ≠ d := fun z => by
  have := h.ins
  rw [z, h.tbl] at this
  cases this
/-- all but what stands at d is as it was -/
def But (d : Addr) (H H' : Hp) : Prop := ∀ b o, b ≠ d → H b = some o → H' b = some o
theorem But.upd {d : Addr} {H : Hp} {o : HO} : But d H (upd H d o) := fun b o' hb z => by rw [upd_ne hb]; exact z
theorem But.of {d : Addr} {H H' : Hp} (h : Same H H') : But d H H' := fun b o _ z => h b o z
theorem But.trans {d : Addr} {H H1 H2 : Hp} (a : But d H H1) (b : But d H1 H2) : But d H H2 := fun c o hc h => b c o hc (a c o hc h)
theorem But.same {d : Addr} {H H1 H2 : Hp} (a : But d H H1) (b : Same H1 H2) : But d H H2 := fun c o hc h => b c o (a c o hc h)
end BK

/-! C(e, k = v) whose __init__ may raise, within a try. -/
namespace EX
open PySem PySem.Spec PyProof.Rows L2
section
variable {X : Cx} {CX : CXT} {k n : Nat} {f C : Addr} {fd : FuncData} {ps ks : List Str} {sp : Sp} {ES : L2.St → XK} {x : Str} {p pos : Pos} {e : Expr} {es : List Expr} {kws : List Keyword} {t tk : TA} {g : List Value → List Value → List Value} {gV : List V → List V → List V}
def tMakeKS (C : Addr) (n m : Nat) (sp : Sp) (gV : List V → List V → List V) (ES : L2.St → XK) (t tk : TA) : TE := fun σ H Q => t σ H fun vs H1 => tk σ H1 fun zs H2 => vs.length = n ∧ zs.length = m ∧
  ∀ y dy, H2 y = none → H2 dy = none → dy ≠ y → sp (gV (.ref y :: vs) zs) (upd (upd H2 dy (.own y)) y (.ins C dy [])) (fun v H3 => v = .non ∧ Q (.ref y) H3) (ES σ)
theorem pe_makeKS (M : Mk X.K C f) (F : FnOk X.prog X.w X.K X.mg X.base CX k f fd ps sp) (hr : Room (k + 1) X.A) (hg : Gl X x) (hm : X.mg x = some (.ref C)) (hb : KBn X.K fd ps (n + 1) ks g gV) (hx : ∀ σ, PassesAt CX X σ (ES σ)) (ha : PA X (e :: es) t) (hkw : PK X kws tk)
    (hall : (backToKw pos (keywordEach kws X.env)).all (·.1.isSome) = true := by rfl) (hks : (backToKw pos (keywordEach kws X.env)).filterMap (·.1) = ks := by rfl) (hdb : (x == ("__debug__" : Str)) = false := by decide)
    (he : starEach (e :: es) X.env = (false, eval e X.env) :: starEach es X.env := by rfl) (hpl : ((backTo pos (starEach (e :: es) X.env)).any (·.1) || (backToKw pos (keywordEach kws X.env)).any (·.1.isNone)) = false := by rfl) :
    PE X (.Call (.Name x p) (e :: es) kws pos) (tMakeKS C n ks.length sp gV ES t tk) := by
  refine ⟨fun pins s σ H Q I h => wpAny_Call_Name_kw (ld_glob I hg hm ?_ hdb)⟩
  refine PySem.W.callWith_KW (h₀ := X.base) I.ok.mod.kin M.kp hall (thn (ha.run pos pins s σ H _ I h) fun us s1 ⟨vs, H1, I1, r, q⟩ => ?_) hpl he
  refine thn (hkw.run pos pins s1 σ H1 _ I1 q) fun ws s2 ⟨zs, H2, I2, rz, l1, l2, q2⟩ => ⟨I2.kIn, ?_⟩
  rw [hks]
  have now := q2 (s2.heap.objs.size + 1) s2.heap.objs.size (I2.hok.fresh (Nat.le_succ _)) (I2.hok.fresh (Nat.le_refl _)) (Nat.ne_of_lt (Nat.lt_succ_self _))
  have J := Inv.made (C := C) I2
  have r1 : Vals (V.ref (s2.heap.objs.size + 1) :: vs) (Value.ref (s2.heap.objs.size + 1) :: us) := .cons rfl r
  have len1 : (Value.ref (s2.heap.objs.size + 1) :: us).length = n + 1 := by rw [List.length_cons, ← r.length, l1]
  have run := F.run _ X.stack _ _ ⟨Value.ref (s2.heap.objs.size + 1) :: us, ks.zip ws⟩ (g (Value.ref (s2.heap.objs.size + 1) :: us) ws) _ _ (ES σ) (hr.make C us (ks.zip ws)) (J.env0.make C us (ks.zip ws))
    (hb.to _ (Value.ref (s2.heap.objs.size + 1) :: us) ws J.kIn len1 (rz.length.symm.trans l2)) (hb.rel r1 rz) now
  refine wpAny_call (make_map (f := f) I2.kIn M.makes M.init (beq_iff_eq.mp M.fn) (codeAny_mono run fun res s3 done => ?_))
  match res, done with
  | .error err, done => exact hx σ pins _ _ err s3 J done
  | .ok (.ret u), done =>
    obtain ⟨v, H', I3, rv, ev, q3⟩ := J.after done
    subst ev
    exact ⟨rv, ⟨V.ref (s2.heap.objs.size + 1), H', I3, rfl, q3⟩⟩
  | .ok .next, done => exact done.elim
  | .ok .brk, done => exact done.elim
  | .ok .cont, done => exact done.elim
end
end EX
namespace EX
open PySem PySem.Spec PyProof.Rows L2 CM
/-- isinstance of the caught error, whatever own class it has -/
def rIsE (K : PySem.W.Frag) (a : Addr) (cls : Value) (d : Option Addr) : List V → Hp → VK → Prop := fun xs H Q => ∃ D, ExcC K D ∧ rIsD K D a cls d xs H Q
theorem call_isE {X : Cx} {a : Addr} {cls : Value} {d : Option Addr} {oe : Obj} {pn : List (Addr × Obj)} (hz : Zc cls d oe) (hf : ∃ vs, oe.data = .fields vs) : CallR (X.suite a ((a, oe) :: pn)) (.builtin "isinstance") (rIsE X.K a cls d) := by
  intro pins s σ H xs us Q I r h
  obtain ⟨D, C, h⟩ := h
  exact call_isD C hz hf pins s σ H xs us Q I r h
/-- flat values as data -/
def dv : V → PyData
  | .bl b => .bool b
  | .int i => .int i
  | .str x => .str x
  | _ => .none
def dOk : V → Bool
  | .non => true
  | .bl _ => true
  | .int _ => true
  | .str x => PyData.strOk x
  | _ => false
theorem dOk_flat {v : V} (h : dOk v = true) : flatV v = true := by
  cases v with
  | byt _ => cases h
  | flt _ => cases h
  | ref _ => cases h
  | ty _ => cases h
  | _ => rfl
theorem dp_flat {K : PySem.W.Frag} {H : Hp} {v : V} (h : dOk v = true) : Dp K H v (dv v) := by
  cases v with
  | non => exact .non
  | bl b => exact .bl b
  | int i => exact .int i
  | str x => exact .str x
  | _ => cases h
theorem dp_list {K : PySem.W.Frag} {H : Hp} {p : Addr} {xs : List V} (h : SqL K H p xs) (ok : xs.all dOk = true) : Dp K H (.ref p) (.list (xs.map dv)) := by
  refine .lst h ?_
  clear h
  induction xs with
  | nil => exact .nil
  | cons x r ih =>
    rw [List.all_cons, Bool.and_eq_true] at ok
    exact .cons (dp_flat ok.1) (ih ok.2)
theorem dv_shaped {xs : List V} (ok : xs.all dOk = true) : SeqAt.shaped (.list (xs.map dv)) = true := by
  have all0 : PyData.canLayAll0 (xs.map dv) = true := by
    induction xs with
    | nil => rfl
    | cons x r ih =>
      rw [List.all_cons, Bool.and_eq_true] at ok
      rw [List.map_cons]
      have hx : PyData.canLay0 (dv x) = true := by
        cases x with
        | str z => exact ok.1
        | non => rfl
        | bl b => rfl
        | int i => rfl
        | _ => cases ok.1
      simp [PyData.canLayAll0, hx, ih ok.2]
  have dep : PyData.depthAll (xs.map dv) ≤ 1 := by
    clear all0
    induction xs with
    | nil => simp [PyData.depthAll]
    | cons x r ih =>
      rw [List.all_cons, Bool.and_eq_true] at ok
      rw [List.map_cons]
      have hx : PyData.depth (dv x) ≤ 1 := by cases x <;> simp [dv, PyData.depth]
      have := ih ok.2
      simp only [PyData.depthAll]
      omega
  simp [SeqAt.shaped, PyData.canLay0, PyData.depth, all0]
  omega
end EX

/-! o[i] = v by an own __setitem__ that may raise, also within a try. -/
namespace SO
open PySem PySem.Spec PyProof.Rows L2 OWN
section
variable {X : Cx} {CX : CXT} {C g : Addr} {n : Nat} {sp : Sp} {ES : L2.St → XK} {o i value : Expr} {to ti tv : TE} {pos pos' : Pos}
def sSetO (C : Addr) (sp : Sp) (ES : L2.St → XK) (to ti tv : TE) : TS := fun D σ H => tv σ H fun v H1 => to σ H1 fun x H2 => ti σ H2 fun y H3 => rSetO C sp (ES σ) x y v H3 fun H4 => D.nx σ H4
theorem ps_setO (m : Meth X.K C "__setitem__" g) (nd : PySem.W.mroIn X.K C (.type "collections.deque") = some false) (F : FnR X.prog X.w X.K X.mg X.base CX n g sp) (hr : Room n X.A) (hx : ∀ σ, PassesAt CX X σ (ES σ))
    (ho : PE X o to) (hi : PE X i ti) (hv : PE X value tv) (hs : swapsWith value (some (.Subscript o i pos')) pos.line X.env = pure false) :
    PS X (.Assign [.Subscript o i pos'] value pos) (sSetO C sp ES to ti tv) := by
  refine ⟨fun pins s σ H D I h => ?_⟩
  refine wpAny_Assign_Subscript (thn (hv.run pins s σ H _ I h) fun r s1 ⟨v, H1, I1, rv, q1⟩ => thn (ho.run pins s1 σ H1 _ I1 q1) fun u s2 ⟨x, H2, I2, rx, q2⟩ => thn (hi.run pins s2 σ H2 _ I2 q2) fun iv s3 ⟨y, H3, I3, ry, q3⟩ => ?_) hs
  exact wpAny_mono (set_run (ES := ES) m nd F hr (hx σ) I3 rx ry rv q3) (fun _ s4 ⟨H4, I4, q4⟩ => ⟨σ, H4, I4, q4⟩) fun _ _ z => z
end
end SO

/-! try with two clauses 'except C as n', one name. -/
namespace TA
open PySem PySem.Spec PyProof.Rows L2
section
variable {X : Cx} {x1 x2 n : Str} {c1 c2 : Value} {i : Nat} {body su1 su2 : List Stmt} {b1 b2 : Stmt} {np1 np2 pos pos1 pos2 : Pos} {tb : WX → TS} {ts1 ts2 : Addr → Value → Option Addr → TS} {Wout : WX}
abbrev AtSuite (X : Cx) (b : Stmt) (su : List Stmt) (ts : Addr → Value → Option Addr → TS) : Prop :=
  ∀ (a : Addr) (oe : Obj) (cls : Value) (d : Option Addr) (pn : List (Addr × Obj)), Zc cls d oe → (∃ vs, oe.data = .fields vs) → PSs (X.suite a ((a, oe) :: pn)) (b :: su) (ts a cls d)
theorem ps_try_as2 (hs : X.stack = X.env :: X.outer) (hf : X.env.frame = some X.env.locals) (hN : X.N.Nodup) (hi : X.N[i]? = some n) (hln : X.env.kindOf n = some .local) (hc1 : Names X x1 c1) (hc2 : Names X x2 c2) (tk : Takes X Wout)
    (hb : ∀ (W : WX) (pn : List (Addr × Obj)) (xe : Value → Shared → Prop), Takes (X.tr pn xe) W → PassesOwn (model X.prog X.w) X.A X.env xe → PSs (X.tr pn xe) body (tb W))
    (hs1 : AtSuite X b1 su1 ts1) (hs2 : AtSuite X b2 su2 ts2) :
    PS X (.Try body [.ExceptHandler (some (.Name x1 np1)) (some n) (b1 :: su1) pos1, .ExceptHandler (some (.Name x2 np2)) (some n) (b2 :: su2) pos2] [] [] pos) (fun D σ H => tb (wAs X.K c1 i ts1 (wAs X.K c2 i ts2 Wout D) D) D σ H) := by
  refine ⟨fun pins s σ H D I h => ?_⟩
  have ok := I.ok
  have frs0 : X.A.frames = some (X.env :: X.outer) := by rw [ok.frames, hs]
  have loc : Loc X.env.scope n := .inl hln
  refine wpAny_Try_except ?_
  refine wpAny_mono ((hb (wAs X.K c1 i ts1 (wAs X.K c2 i ts2 Wout D) D) (X.pn ++ pins) _ (fun u s' caught => ?_) PassesOwn.looking).run [] s σ H D (I.toTry _) h) (fun f s1 ended => ?_) (fun e s1 he => he)
  · obtain ⟨a, B, sI, pins', σ', H', cls, d, rfl, J0, nb, up, sky, na, os, ag, wish⟩ := caught
    have J : Inv X pins σ' H' sI := J0.ofTry ok
    have sky2 : Sky B (X.env :: X.outer) a (Zc cls d) X.env.locals s'.heap := by rw [← hs]; exact sky
    show wpAny (model X.prog X.w) X.A (noteFrame (.ref a) X.env) _ _ _
    refine Sky.land Zc.steady frs0 hf sky2 fun hh fly up3 => ?_
    have JJ : Inv X pins σ' H' { s' with heap := hh } := J.landed nb fly.1 (up.trans up3) os ag
    obtain ⟨oe, vs, he, hz, hd⟩ := fly.there
    have off : a ∉ frs (X.env :: X.outer) := fun hm => by
      obtain ⟨_, o2, e2, bad⟩ := fly.2.2.1.mem hm
      rw [he] at e2
      cases e2
      exact bad _ hd
    have offL : a ≠ X.env.locals := fun z => off (List.mem_filterMap.mpr ⟨X.env, List.mem_cons_self, by rw [hf, z]⟩)
    have offF : a ∉ X.fs := fun hm => by
      obtain ⟨e, h1, h2⟩ := List.mem_filterMap.mp hm
      exact off (List.mem_filterMap.mpr ⟨e, List.mem_cons_of_mem _ h1, h2⟩)
    have SS := JJ.suite he hd na offL offF
    have ty : PySem.W.Looks (model X.prog X.w) hh (typeOf (.ref a)) cls := fun A Q E s k q => wpAny_typeOf_ref (k _ _ he) (by rw [hz.1]; exact q)
    -- one clause
    have clause : ∀ {x : Str} {c : Value} {np pos' : Pos} {b₀ : Stmt} {su : List Stmt} {ts : Addr → Value → Option Addr → TS} {rest : List ExceptHandler}, Names X x c → AtSuite X b₀ su ts →
        (∃ b, PySem.W.exmOne X.K cls c = some b ∧ (b = true → ∀ a, H' a = none → ts a cls d { nx := fun σ' H' => D.nx (σ'.set i none) H', rt := D.rt, bk := fun σ' H' => D.bk (σ'.set i none) H', ct := fun σ' H' => D.ct (σ'.set i none) H' } (σ'.set i (some (.ref a))) H') ∧
          (b = false → wpAny (model X.prog X.w) X.A (handleBy (.ref a) X.env rest) (SP X pins D) X.xe { s' with heap := hh })) →
        wpAny (model X.prog X.w) X.A (handleBy (.ref a) X.env (.ExceptHandler (some (.Name x np)) (some n) (b₀ :: su) pos' :: rest)) (SP X pins D) X.xe { s' with heap := hh } := by
      intro x c np pos' b₀ su ts rest nm at_ ⟨b, eb, yes, no⟩
      refine wpAny_handleBy_cons (codeAny_handlers_test ?_) (by intro q; cases q)
      have is := PySem.W.exm_one (M := model X.prog X.w) (JJ.kIn) ty eb
      have named : ∀ {Q : Value → Shared → Prop} {E : Value → Shared → Prop}, Q c { s' with heap := hh } → wpAny (model X.prog X.w) (X.A.mark (some (.ref a))) (eval (.Name x np) X.env) Q E { s' with heap := hh } := fun {Q E} q => by
        obtain ⟨g, nd, m | ⟨m, v, nn⟩⟩ := nm
        · exact ld_glob (X := X.suite a ((a, oe) :: (X.pn ++ pins))) SS g m q nd
        · exact ld_blt (X := X.suite a ((a, oe) :: (X.pn ++ pins))) SS g m v q nn nd
      refine named (is.here ?_)
      cases b with
      | false => exact no rfl
      | true =>
        refine codeAny_handlers_suite_as ?_
        refine HandSPX.lands_againZ fly fun h4 fly4 up4 => ?_
        have J4 : Inv X pins σ' H' { s' with heap := h4 } := J.landed nb fly4.1 ((up.trans up3).trans up4) os ag
        obtain ⟨oe4, vs4, he4, hz4, hd4⟩ := fly4.there
        have S4 := J4.suite he4 hd4 na offL offF
        refine store_ok (X := X.suite a ((a, oe4) :: (X.pn ++ pins))) (v := .ref a) S4 hN hi loc rfl (fun s5 S5 => ?_) (.inr hln)
        refine wpAny_mono ((at_ a oe4 cls d (X.pn ++ pins) hz4 ⟨_, hd4⟩).run [] s5 _ H' _ S5 (yes rfl a na)) (fun f s6 out => ?_) (fun _ _ z => False.elim z)
        have done : ∀ {σ6 : L2.St} {H6 : Hp} {Q : Shared → Prop}, Inv (X.suite a ((a, oe4) :: (X.pn ++ pins))) [] σ6 H6 s6 → (∀ s7, Inv X pins (σ6.set i none) H6 s7 → Q s7) →
            wpAny (model X.prog X.w) X.A (do bindName X.env n .none; unbindBehindTheSuite X.env n pos') (fun _ s7 => Q s7) X.xe s6 := fun {σ6 H6 Q} S6 hq => gone_ok (S6.unsuite ok) hN hi hln hq
        cases f with
        | ret u =>
          obtain ⟨v6, σ6, H6, S6, r6, q6⟩ := out
          exact done S6 fun s7 J7 => ⟨_, _, _, J7, r6, q6⟩
        | next =>
          obtain ⟨σ6, H6, S6, q6⟩ := out
          exact done S6 fun s7 J7 => ⟨_, _, J7, q6⟩
        | brk =>
          obtain ⟨σ6, H6, S6, q6⟩ := out
          exact done S6 fun s7 J7 => ⟨_, _, J7, q6⟩
        | cont =>
          obtain ⟨σ6, H6, S6, q6⟩ := out
          exact done S6 fun s7 J7 => ⟨_, _, J7, q6⟩
    obtain ⟨bb1, e1, y1, no1⟩ := wish
    refine clause hc1 hs1 ⟨bb1, e1, y1, fun z1 => ?_⟩
    obtain ⟨bb2, e2, y2, no2⟩ := no1 z1
    refine clause hc2 hs2 ⟨bb2, e2, y2, fun z2 => ?_⟩
    refine wpAny_handleBy_nil ?_
    obtain ⟨k1, k2, k3, oq, vq, Tb, oT, tq, hq1, hq2, hq3, hq4, hq5⟩ := id fly
    unfold PySem.passOn
    refine wpAny_bind (wpAny_field hq1 hq3 hq4 ?_)
    rw [if_neg (show ¬ ((Value.ref Tb == Value.none) = true) from by simp)]
    have away : wpAny (model X.prog X.w) X.A (setFlight (.ref a) X.env.frame) (fun _ s4 => wpAny (model X.prog X.w) X.A (throw (.ref a) : Sem Flow) (SP X pins D) X.xe s4) X.xe { s' with heap := hh } := by
      rw [hf]
      refine HandSPX.setFlight_upZ fly fun h4 hh4 up4 => wpAny_throw (tk _ _ ?_)
      exact ⟨a, B, sI, pins, σ', H', cls, d, rfl, J, nb, (up.trans up3).trans up4, .inr (.inr (by rw [hs]; exact hh4)), na, os, ag, no2 z2⟩
    first
      | exact wpAny_bind (wpAny_pure (wpAny_bind away))
      | exact wpAny_bind away
  · cases f with
    | ret u =>
      obtain ⟨v, σ', H', J', r, q⟩ := ended
      exact ⟨v, σ', H', J'.ofTry ok, r, q⟩
    | next =>
      obtain ⟨σ', H', J', q⟩ := ended
      exact wpAny_execs_nil ⟨σ', H', J'.ofTry ok, q⟩
    | brk =>
      obtain ⟨σ', H', J', q⟩ := ended
      exact ⟨σ', H', J'.ofTry ok, q⟩
    | cont =>
      obtain ⟨σ', H', J', q⟩ := ended
      exact ⟨σ', H', J'.ofTry ok, q⟩
end
end TA

namespace K06
open PySem L2
def top (i : Nat) : Stmt := PySem.Challenge.pw_stamprules_k06_cells_of_a_book.main.body.getD i (.Pass ⟨0, 0, 0, 0⟩)
abbrev s_BadEntry_init : Stmt := inClass (top 2) 0
abbrev s_BadAnswer_init : Stmt := inClass (top 3) 0
abbrev s_BadSetting_init : Stmt := inClass (top 4) 0
abbrev s_Book_init : Stmt := inClass (top 67) 0
abbrev s_Book_copy : Stmt := inClass (top 67) 3
abbrev s_Book_getitem : Stmt := inClass (top 67) 4
abbrev s_Book_setitem : Stmt := inClass (top 67) 5
abbrev s_answers_at : Stmt := top 62
abbrev s_check_answer : Stmt := top 64
abbrev s_is_keep : Stmt := top 65
abbrev s_law_cell : Stmt := top 69
abbrev s_law_row : Stmt := top 70
abbrev s_law_entries : Stmt := top 71
abbrev s_law_choices : Stmt := top 72
abbrev s_law_table : Stmt := top 73
abbrev s_law_one : Stmt := top 74
abbrev s_law_set : Stmt := top 75
abbrev s_law_unknown : Stmt := top 76
abbrev s_law : Stmt := top 77
/-- what isinstance asks of an own class -/
structure IsI (K : PySem.W.Frag) (C : Addr) : Prop where
  ha : PySem.W.findIn K (.ref C) "__class__" = some (some (.builtin "object.__class__"))
  hm : PySem.W.mroIn K C (.type "object") = some true
structure IsG (K : PySem.W.Frag) : Prop where
  hn : PySem.W.specialIn K (.builtin "object.__class__") "__get__" = some (some (.builtin "getset_descriptor.__get__"))
  ht : PySem.W.takesIn K (.builtin "object.__class__") = some true
/-- what the top has written -/
structure Txt (w : World) (K : PySem.W.Frag) (mg : Str → Option Value) where
  isg : IsG K
  c_StampError : Addr
  g_StampError : mg "StampError" = some (.ref c_StampError)
  k_StampError : PySem.W.keepIn K (.ref c_StampError) = true
  c_BadEntry : Addr
  g_BadEntry : mg "BadEntry" = some (.ref c_BadEntry)
  k_BadEntry : PySem.W.keepIn K (.ref c_BadEntry) = true
  c_BadAnswer : Addr
  g_BadAnswer : mg "BadAnswer" = some (.ref c_BadAnswer)
  k_BadAnswer : PySem.W.keepIn K (.ref c_BadAnswer) = true
  c_BadSetting : Addr
  g_BadSetting : mg "BadSetting" = some (.ref c_BadSetting)
  k_BadSetting : PySem.W.keepIn K (.ref c_BadSetting) = true
  c_Book : Addr
  g_Book : mg "Book" = some (.ref c_Book)
  k_Book : PySem.W.keepIn K (.ref c_Book) = true
  oex_StampError : OexC K c_StampError
  excc_StampError : ExcC K c_StampError
  xfc_StampError : XfC K c_StampError
  exm_StampError_StampError : PySem.W.exmOne K (.ref c_StampError) (.ref c_StampError) = some true
  kit_StampError_StampError : PySem.W.kitOne K (.ref c_StampError) (.ref c_StampError) = some true
  exm_StampError_BadEntry : PySem.W.exmOne K (.ref c_StampError) (.ref c_BadEntry) = some false
  kit_StampError_BadEntry : PySem.W.kitOne K (.ref c_StampError) (.ref c_BadEntry) = some false
  exm_StampError_BadAnswer : PySem.W.exmOne K (.ref c_StampError) (.ref c_BadAnswer) = some false
  kit_StampError_BadAnswer : PySem.W.kitOne K (.ref c_StampError) (.ref c_BadAnswer) = some false
  exm_StampError_BadSetting : PySem.W.exmOne K (.ref c_StampError) (.ref c_BadSetting) = some false
  kit_StampError_BadSetting : PySem.W.kitOne K (.ref c_StampError) (.ref c_BadSetting) = some false
  kit_StampError_VE : PySem.W.kitOne K (.ref c_StampError) (.type "ValueError") = some true
  oex_BadEntry : OexC K c_BadEntry
  excc_BadEntry : ExcC K c_BadEntry
  xfc_BadEntry : XfC K c_BadEntry
  exm_BadEntry_StampError : PySem.W.exmOne K (.ref c_BadEntry) (.ref c_StampError) = some true
  kit_BadEntry_StampError : PySem.W.kitOne K (.ref c_BadEntry) (.ref c_StampError) = some true
  exm_BadEntry_BadEntry : PySem.W.exmOne K (.ref c_BadEntry) (.ref c_BadEntry) = some true
  kit_BadEntry_BadEntry : PySem.W.kitOne K (.ref c_BadEntry) (.ref c_BadEntry) = some true
  exm_BadEntry_BadAnswer : PySem.W.exmOne K (.ref c_BadEntry) (.ref c_BadAnswer) = some false
  kit_BadEntry_BadAnswer : PySem.W.kitOne K (.ref c_BadEntry) (.ref c_BadAnswer) = some false
  exm_BadEntry_BadSetting : PySem.W.exmOne K (.ref c_BadEntry) (.ref c_BadSetting) = some false
  kit_BadEntry_BadSetting : PySem.W.kitOne K (.ref c_BadEntry) (.ref c_BadSetting) = some false
  kit_BadEntry_VE : PySem.W.kitOne K (.ref c_BadEntry) (.type "ValueError") = some true
  na_BadEntry_entry : NoAttr K c_BadEntry "entry"
  oex_BadAnswer : OexC K c_BadAnswer
  excc_BadAnswer : ExcC K c_BadAnswer
  xfc_BadAnswer : XfC K c_BadAnswer
  exm_BadAnswer_StampError : PySem.W.exmOne K (.ref c_BadAnswer) (.ref c_StampError) = some true
  kit_BadAnswer_StampError : PySem.W.kitOne K (.ref c_BadAnswer) (.ref c_StampError) = some true
  exm_BadAnswer_BadEntry : PySem.W.exmOne K (.ref c_BadAnswer) (.ref c_BadEntry) = some false
  kit_BadAnswer_BadEntry : PySem.W.kitOne K (.ref c_BadAnswer) (.ref c_BadEntry) = some false
  exm_BadAnswer_BadAnswer : PySem.W.exmOne K (.ref c_BadAnswer) (.ref c_BadAnswer) = some true
  kit_BadAnswer_BadAnswer : PySem.W.kitOne K (.ref c_BadAnswer) (.ref c_BadAnswer) = some true
  exm_BadAnswer_BadSetting : PySem.W.exmOne K (.ref c_BadAnswer) (.ref c_BadSetting) = some false
  kit_BadAnswer_BadSetting : PySem.W.kitOne K (.ref c_BadAnswer) (.ref c_BadSetting) = some false
  kit_BadAnswer_VE : PySem.W.kitOne K (.ref c_BadAnswer) (.type "ValueError") = some true
  na_BadAnswer_answer : NoAttr K c_BadAnswer "answer"
  na_BadAnswer_entry : NoAttr K c_BadAnswer "entry"
  oex_BadSetting : OexC K c_BadSetting
  excc_BadSetting : ExcC K c_BadSetting
  xfc_BadSetting : XfC K c_BadSetting
  exm_BadSetting_StampError : PySem.W.exmOne K (.ref c_BadSetting) (.ref c_StampError) = some true
  kit_BadSetting_StampError : PySem.W.kitOne K (.ref c_BadSetting) (.ref c_StampError) = some true
  exm_BadSetting_BadEntry : PySem.W.exmOne K (.ref c_BadSetting) (.ref c_BadEntry) = some false
  kit_BadSetting_BadEntry : PySem.W.kitOne K (.ref c_BadSetting) (.ref c_BadEntry) = some false
  exm_BadSetting_BadAnswer : PySem.W.exmOne K (.ref c_BadSetting) (.ref c_BadAnswer) = some false
  kit_BadSetting_BadAnswer : PySem.W.kitOne K (.ref c_BadSetting) (.ref c_BadAnswer) = some false
  exm_BadSetting_BadSetting : PySem.W.exmOne K (.ref c_BadSetting) (.ref c_BadSetting) = some true
  kit_BadSetting_BadSetting : PySem.W.kitOne K (.ref c_BadSetting) (.ref c_BadSetting) = some true
  kit_BadSetting_VE : PySem.W.kitOne K (.ref c_BadSetting) (.type "ValueError") = some true
  na_BadSetting_given : NoAttr K c_BadSetting "given"
  cl_Book : Cls K c_Book
  isi_Book : IsI K c_Book
  kit_Book : PySem.W.kitOne K (.ref c_Book) (.ref c_Book) = some true
  na_Book__answers : NoAttr K c_Book "_answers"
  na_Book__ends : NoAttr K c_Book "_ends"
  na_Book__keep : NoAttr K c_Book "_keep"
  f_BadEntry_init : Addr
  d_BadEntry_init : FuncData
  cc_BadEntry_init : Addr
  cdr_BadEntry_init : Addr
  S_BadEntry_init : SI.SupT PySem.Challenge.rw_stamprules_k06_cells_of_a_book.prog K mg c_BadEntry f_BadEntry_init cdr_BadEntry_init cc_BadEntry_init ⟨"__init__", "BadEntry.__init__", defArgs s_BadEntry_init, defBody s_BadEntry_init, defScope s_BadEntry_init, [(("__class__" : Str), cc_BadEntry_init)], cdr_BadEntry_init⟩ d_BadEntry_init
  i_BadEntry_init : PySem.W.findIn K (.ref c_BadEntry) "__init__" = some (some (.ref f_BadEntry_init))
  t_BadEntry_init : PySem.W.typeIn K (.ref f_BadEntry_init) = some (.type "function")
  f_BadAnswer_init : Addr
  d_BadAnswer_init : FuncData
  cc_BadAnswer_init : Addr
  cdr_BadAnswer_init : Addr
  S_BadAnswer_init : SI.SupT PySem.Challenge.rw_stamprules_k06_cells_of_a_book.prog K mg c_BadAnswer f_BadAnswer_init cdr_BadAnswer_init cc_BadAnswer_init ⟨"__init__", "BadAnswer.__init__", defArgs s_BadAnswer_init, defBody s_BadAnswer_init, defScope s_BadAnswer_init, [(("__class__" : Str), cc_BadAnswer_init)], cdr_BadAnswer_init⟩ d_BadAnswer_init
  i_BadAnswer_init : PySem.W.findIn K (.ref c_BadAnswer) "__init__" = some (some (.ref f_BadAnswer_init))
  t_BadAnswer_init : PySem.W.typeIn K (.ref f_BadAnswer_init) = some (.type "function")
  f_BadSetting_init : Addr
  d_BadSetting_init : FuncData
  cc_BadSetting_init : Addr
  cdr_BadSetting_init : Addr
  S_BadSetting_init : SI.SupT PySem.Challenge.rw_stamprules_k06_cells_of_a_book.prog K mg c_BadSetting f_BadSetting_init cdr_BadSetting_init cc_BadSetting_init ⟨"__init__", "BadSetting.__init__", defArgs s_BadSetting_init, defBody s_BadSetting_init, defScope s_BadSetting_init, [(("__class__" : Str), cc_BadSetting_init)], cdr_BadSetting_init⟩ d_BadSetting_init
  i_BadSetting_init : PySem.W.findIn K (.ref c_BadSetting) "__init__" = some (some (.ref f_BadSetting_init))
  t_BadSetting_init : PySem.W.typeIn K (.ref f_BadSetting_init) = some (.type "function")
  f_Book_init : Addr
  d_Book_init : FuncData
  F_Book_init : FunD K "__init__" "Book.__init__" (defArgs s_Book_init) (defBody s_Book_init) (defScope s_Book_init) [.non] [("ends", .str "now"), ("keep", .int 1)] f_Book_init d_Book_init
  m_Book_init : Meth K c_Book "__init__" f_Book_init
  mk_Book : Mk K c_Book f_Book_init
  f_Book_copy : Addr
  d_Book_copy : FuncData
  F_Book_copy : Fun K "copy" "Book.copy" s_Book_copy f_Book_copy d_Book_copy
  m_Book_copy : Meth K c_Book "copy" f_Book_copy
  f_Book_getitem : Addr
  d_Book_getitem : FuncData
  F_Book_getitem : Fun K "__getitem__" "Book.__getitem__" s_Book_getitem f_Book_getitem d_Book_getitem
  m_Book_getitem : Meth K c_Book "__getitem__" f_Book_getitem
  nd_Book : PySem.W.mroIn K c_Book (.type "collections.deque") = some false
  fi_Book_getitem : PySem.W.fnIn K f_Book_getitem = true
  f_Book_setitem : Addr
  d_Book_setitem : FuncData
  F_Book_setitem : Fun K "__setitem__" "Book.__setitem__" s_Book_setitem f_Book_setitem d_Book_setitem
  m_Book_setitem : Meth K c_Book "__setitem__" f_Book_setitem
  f_answers_at : Addr
  d_answers_at : FuncData
  F_answers_at : Fun K "answers_at" "answers_at" s_answers_at f_answers_at d_answers_at
  g_answers_at : mg "answers_at" = some (.ref f_answers_at)
  f_check_answer : Addr
  d_check_answer : FuncData
  F_check_answer : Fun K "check_answer" "check_answer" s_check_answer f_check_answer d_check_answer
  g_check_answer : mg "check_answer" = some (.ref f_check_answer)
  f_is_keep : Addr
  d_is_keep : FuncData
  F_is_keep : Fun K "is_keep" "is_keep" s_is_keep f_is_keep d_is_keep
  g_is_keep : mg "is_keep" = some (.ref f_is_keep)
  f_law_cell : Addr
  d_law_cell : FuncData
  F_law_cell : Fun K "_law_cell" "_law_cell" s_law_cell f_law_cell d_law_cell
  g_law_cell : mg "_law_cell" = some (.ref f_law_cell)
  f_law_row : Addr
  d_law_row : FuncData
  F_law_row : Fun K "_law_row" "_law_row" s_law_row f_law_row d_law_row
  g_law_row : mg "_law_row" = some (.ref f_law_row)
  f_law_entries : Addr
  d_law_entries : FuncData
  F_law_entries : Fun K "_law_entries" "_law_entries" s_law_entries f_law_entries d_law_entries
  g_law_entries : mg "_law_entries" = some (.ref f_law_entries)
  f_law_choices : Addr
  d_law_choices : FuncData
  F_law_choices : Fun K "_law_choices" "_law_choices" s_law_choices f_law_choices d_law_choices
  g_law_choices : mg "_law_choices" = some (.ref f_law_choices)
  f_law_table : Addr
  d_law_table : FuncData
  F_law_table : Fun K "_law_table" "_law_table" s_law_table f_law_table d_law_table
  g_law_table : mg "_law_table" = some (.ref f_law_table)
  f_law_one : Addr
  d_law_one : FuncData
  F_law_one : Fun K "_law_one" "_law_one" s_law_one f_law_one d_law_one
  g_law_one : mg "_law_one" = some (.ref f_law_one)
  f_law_set : Addr
  d_law_set : FuncData
  F_law_set : Fun K "_law_set" "_law_set" s_law_set f_law_set d_law_set
  g_law_set : mg "_law_set" = some (.ref f_law_set)
  f_law_unknown : Addr
  d_law_unknown : FuncData
  F_law_unknown : Fun K "_law_unknown" "_law_unknown" s_law_unknown f_law_unknown d_law_unknown
  g_law_unknown : mg "_law_unknown" = some (.ref f_law_unknown)
  f_law : Addr
  d_law : FuncData
  F_law : Fun K "law" "law" s_law f_law d_law
  g_law : mg "law" = some (.ref f_law)
  o_ENTRIES : Addr
  g_ENTRIES : mg "ENTRIES" = some (.ref o_ENTRIES)
  q_ENTRIES : ∀ H, SqT K H o_ENTRIES [.str "read late", .str "read under", .str "read below", .str "read above", .str "write late", .str "write under", .str "write below", .str "write above", .str "write free passed", .str "write own passed", .str "write late passed", .str "write under passed", .str "write below passed", .str "write above passed"]
  o_ANSWERS : Addr
  g_ANSWERS : mg "ANSWERS" = some (.ref o_ANSWERS)
  o0_ANSWERS : Addr
  q0_ANSWERS : ∀ H, SqT K H o0_ANSWERS [.str "last", .str "old", .str "abort"]
  o1_ANSWERS : Addr
  q1_ANSWERS : ∀ H, SqT K H o1_ANSWERS [.str "last", .str "old", .str "open", .str "wait", .str "abort"]
  o2_ANSWERS : Addr
  q2_ANSWERS : ∀ H, SqT K H o2_ANSWERS [.str "last", .str "open", .str "wait", .str "abort"]
  o3_ANSWERS : Addr
  q3_ANSWERS : ∀ H, SqT K H o3_ANSWERS [.str "last", .str "open", .str "wait", .str "abort"]
  o4_ANSWERS : Addr
  q4_ANSWERS : ∀ H, SqT K H o4_ANSWERS [.str "skip", .str "abort"]
  o5_ANSWERS : Addr
  q5_ANSWERS : ∀ H, SqT K H o5_ANSWERS [.str "skip", .str "wait", .str "wound", .str "abort"]
  o6_ANSWERS : Addr
  q6_ANSWERS : ∀ H, SqT K H o6_ANSWERS [.str "skip", .str "wait", .str "wound", .str "abort"]
  o7_ANSWERS : Addr
  q7_ANSWERS : ∀ H, SqT K H o7_ANSWERS [.str "skip", .str "wait", .str "wound", .str "abort"]
  o8_ANSWERS : Addr
  q8_ANSWERS : ∀ H, SqT K H o8_ANSWERS [.str "put", .str "abort"]
  o9_ANSWERS : Addr
  q9_ANSWERS : ∀ H, SqT K H o9_ANSWERS [.str "put", .str "abort"]
  o10_ANSWERS : Addr
  q10_ANSWERS : ∀ H, SqT K H o10_ANSWERS [.str "skip", .str "abort"]
  o11_ANSWERS : Addr
  q11_ANSWERS : ∀ H, SqT K H o11_ANSWERS [.str "skip", .str "wait", .str "wound", .str "abort"]
  o12_ANSWERS : Addr
  q12_ANSWERS : ∀ H, SqT K H o12_ANSWERS [.str "skip", .str "wait", .str "wound", .str "abort"]
  o13_ANSWERS : Addr
  q13_ANSWERS : ∀ H, SqT K H o13_ANSWERS [.str "skip", .str "wait", .str "wound", .str "abort"]
  es_ANSWERS : Array DictEntry
  ep_ANSWERS : Nat
  kd_ANSWERS : KDict K w o_ANSWERS es_ANSWERS ep_ANSWERS
  n0_ANSWERS : PySem.W.nsIn K o_ANSWERS "read late" = some (some (.ref o0_ANSWERS))
  n1_ANSWERS : PySem.W.nsIn K o_ANSWERS "read under" = some (some (.ref o1_ANSWERS))
  n2_ANSWERS : PySem.W.nsIn K o_ANSWERS "read below" = some (some (.ref o2_ANSWERS))
  n3_ANSWERS : PySem.W.nsIn K o_ANSWERS "read above" = some (some (.ref o3_ANSWERS))
  n4_ANSWERS : PySem.W.nsIn K o_ANSWERS "write late" = some (some (.ref o4_ANSWERS))
  n5_ANSWERS : PySem.W.nsIn K o_ANSWERS "write under" = some (some (.ref o5_ANSWERS))
  n6_ANSWERS : PySem.W.nsIn K o_ANSWERS "write below" = some (some (.ref o6_ANSWERS))
  n7_ANSWERS : PySem.W.nsIn K o_ANSWERS "write above" = some (some (.ref o7_ANSWERS))
  n8_ANSWERS : PySem.W.nsIn K o_ANSWERS "write free passed" = some (some (.ref o8_ANSWERS))
  n9_ANSWERS : PySem.W.nsIn K o_ANSWERS "write own passed" = some (some (.ref o9_ANSWERS))
  n10_ANSWERS : PySem.W.nsIn K o_ANSWERS "write late passed" = some (some (.ref o10_ANSWERS))
  n11_ANSWERS : PySem.W.nsIn K o_ANSWERS "write under passed" = some (some (.ref o11_ANSWERS))
  n12_ANSWERS : PySem.W.nsIn K o_ANSWERS "write below passed" = some (some (.ref o12_ANSWERS))
  n13_ANSWERS : PySem.W.nsIn K o_ANSWERS "write above passed" = some (some (.ref o13_ANSWERS))
  g_MOST_KEPT : ∃ t, mg "MOST_KEPT" = some (.int 20 t)
  n_bool : mg "bool" = none
  n_dict : mg "dict" = none
  n_int : mg "int" = none
  n_isinstance : mg "isinstance" = none
  n_len : mg "len" = none
  n_range : mg "range" = none
  n_super : mg "super" = none
theorem sc_BadEntry_init : NdefX.NScope ["self", "entry", "__class__"] ["self", "entry"] SI.sfr (defScope s_BadEntry_init) := NdefX.nscope_by (by decide +kernel)
theorem sc_BadAnswer_init : NdefX.NScope ["self", "entry", "answer", "__class__"] ["self", "entry", "answer"] SI.sfr (defScope s_BadAnswer_init) := NdefX.nscope_by (by decide +kernel)
theorem sc_BadSetting_init : NdefX.NScope ["self", "given", "__class__"] ["self", "given"] SI.sfr (defScope s_BadSetting_init) := NdefX.nscope_by (by decide +kernel)
theorem sc_Book_init : FnScope ["self", "answers", "ends", "keep", "entry", "given", "answer"] ["self", "answers", "ends", "keep"] (defScope s_Book_init) := ⟨rfl, rfl, rfl, by decide +kernel, rfl, by decide +kernel, by decide +kernel⟩
theorem sc_Book_copy : FnScope ["self"] ["self"] (defScope s_Book_copy) := ⟨rfl, rfl, rfl, by decide +kernel, rfl, by decide +kernel, by decide +kernel⟩
theorem sc_Book_getitem : FnScope ["self", "entry"] ["self", "entry"] (defScope s_Book_getitem) := ⟨rfl, rfl, rfl, by decide +kernel, rfl, by decide +kernel, by decide +kernel⟩
theorem sc_Book_setitem : FnScope ["self", "entry", "answer"] ["self", "entry", "answer"] (defScope s_Book_setitem) := ⟨rfl, rfl, rfl, by decide +kernel, rfl, by decide +kernel, by decide +kernel⟩
theorem sc_answers_at : FnScope ["entry"] ["entry"] (defScope s_answers_at) := ⟨rfl, rfl, rfl, by decide +kernel, rfl, by decide +kernel, by decide +kernel⟩
theorem sc_check_answer : FnScope ["entry", "answer"] ["entry", "answer"] (defScope s_check_answer) := ⟨rfl, rfl, rfl, by decide +kernel, rfl, by decide +kernel, by decide +kernel⟩
theorem sc_is_keep : FnScope ["keep"] ["keep"] (defScope s_is_keep) := ⟨rfl, rfl, rfl, by decide +kernel, rfl, by decide +kernel, by decide +kernel⟩
theorem sc_law_cell : FnScope ["_law_script", "_law_k"] ["_law_script", "_law_k"] (defScope s_law_cell) := ⟨rfl, rfl, rfl, by decide +kernel, rfl, by decide +kernel, by decide +kernel⟩
theorem sc_law_row : FnScope ["_law_cell_here", "_law_count", "_law_base", "_law_row_here", "_law_rest", "_law_mixed", "_law_k"] ["_law_cell_here", "_law_count", "_law_base"] (defScope s_law_row) := ⟨rfl, rfl, rfl, by decide +kernel, rfl, by decide +kernel, by decide +kernel⟩
theorem sc_law_entries : FnScope ["_law_names"] [] (defScope s_law_entries) := ⟨rfl, rfl, rfl, by decide +kernel, rfl, by decide +kernel, by decide +kernel⟩
theorem sc_law_choices : FnScope ["_law_name"] ["_law_name"] (defScope s_law_choices) := ⟨rfl, rfl, rfl, by decide +kernel, rfl, by decide +kernel, by decide +kernel⟩
theorem sc_law_table : FnScope ["_law_cell_here", "_law_table_here", "_law_names", "_law_draws", "_law_k", "_law_options"] ["_law_cell_here"] (defScope s_law_table) := ⟨rfl, rfl, rfl, by decide +kernel, rfl, by decide +kernel, by decide +kernel⟩
theorem sc_law_one : FnScope ["_law_cell_here", "_law_k", "_law_base"] ["_law_cell_here", "_law_k", "_law_base"] (defScope s_law_one) := ⟨rfl, rfl, rfl, by decide +kernel, rfl, by decide +kernel, by decide +kernel⟩
theorem sc_law_set : FnScope ["_law_book", "_law_name", "_law_answer", "e"] ["_law_book", "_law_name", "_law_answer"] (defScope s_law_set) := ⟨rfl, rfl, rfl, by decide +kernel, rfl, by decide +kernel, by decide +kernel⟩
theorem sc_law_unknown : FnScope ["_law_book", "_law_name", "_law_seen", "e"] ["_law_book", "_law_name"] (defScope s_law_unknown) := ⟨rfl, rfl, rfl, by decide +kernel, rfl, by decide +kernel, by decide +kernel⟩
theorem sc_law : FnScope ["_law_script", "_law_names", "_law_words", "_law_answers", "_law_tables", "_law_books", "_law_first", "_law_twin", "_law_base", "_law_draws", "_law_k", "_law_draw", "_law_which", "_law_name", "_law_answer", "_law_due"] ["_law_script"] (defScope s_law) := ⟨rfl, rfl, rfl, by decide +kernel, rfl, by decide +kernel, by decide +kernel⟩
section
variable {w : World} {K : PySem.W.Frag} {mg : Str → Option Value} (T : Txt w K mg)
include T
theorem b_BadEntry_init : Binds K T.d_BadEntry_init ["self", "entry"] [] := by
  obtain ⟨_, _, _, _, _, _, _, _, e, _⟩ := T.S_BadEntry_init.fn
  rw [e]
  exact .all fun us hl => match us, hl with | [_, _], _ => rfl
theorem b_BadAnswer_init : Binds K T.d_BadAnswer_init ["self", "entry", "answer"] [] := by
  obtain ⟨_, _, _, _, _, _, _, _, e, _⟩ := T.S_BadAnswer_init.fn
  rw [e]
  exact .all fun us hl => match us, hl with | [_, _, _], _ => rfl
theorem b_BadSetting_init : Binds K T.d_BadSetting_init ["self", "given"] [] := by
  obtain ⟨_, _, _, _, _, _, _, _, e, _⟩ := T.S_BadSetting_init.fn
  rw [e]
  exact .all fun us hl => match us, hl with | [_, _], _ => rfl
theorem b_Book_copy : Binds K T.d_Book_copy ["self"] [] := T.F_Book_copy.binds (ps := ["self"]) fun _ _ _ _ _ _ us hl => match us, hl with | [_], _ => rfl
theorem b_Book_getitem : Binds K T.d_Book_getitem ["self", "entry"] [] := T.F_Book_getitem.binds (ps := ["self", "entry"]) fun _ _ _ _ _ _ us hl => match us, hl with | [_, _], _ => rfl
theorem b_Book_setitem : Binds K T.d_Book_setitem ["self", "entry", "answer"] [] := T.F_Book_setitem.binds (ps := ["self", "entry", "answer"]) fun _ _ _ _ _ _ us hl => match us, hl with | [_, _, _], _ => rfl
theorem b_answers_at : Binds K T.d_answers_at ["entry"] [] := T.F_answers_at.binds (ps := ["entry"]) fun _ _ _ _ _ _ us hl => match us, hl with | [_], _ => rfl
theorem b_check_answer : Binds K T.d_check_answer ["entry", "answer"] [] := T.F_check_answer.binds (ps := ["entry", "answer"]) fun _ _ _ _ _ _ us hl => match us, hl with | [_, _], _ => rfl
theorem b_is_keep : Binds K T.d_is_keep ["keep"] [] := T.F_is_keep.binds (ps := ["keep"]) fun _ _ _ _ _ _ us hl => match us, hl with | [_], _ => rfl
theorem b_law_cell : Binds K T.d_law_cell ["_law_script", "_law_k"] [] := T.F_law_cell.binds (ps := ["_law_script", "_law_k"]) fun _ _ _ _ _ _ us hl => match us, hl with | [_, _], _ => rfl
theorem b_law_row : Binds K T.d_law_row ["_law_cell_here", "_law_count", "_law_base"] [] := T.F_law_row.binds (ps := ["_law_cell_here", "_law_count", "_law_base"]) fun _ _ _ _ _ _ us hl => match us, hl with | [_, _, _], _ => rfl
theorem b_law_entries : Binds K T.d_law_entries [] [] := T.F_law_entries.binds (ps := []) fun _ _ _ _ _ _ us hl => match us, hl with | [], _ => rfl
theorem b_law_choices : Binds K T.d_law_choices ["_law_name"] [] := T.F_law_choices.binds (ps := ["_law_name"]) fun _ _ _ _ _ _ us hl => match us, hl with | [_], _ => rfl
theorem b_law_table : Binds K T.d_law_table ["_law_cell_here"] [] := T.F_law_table.binds (ps := ["_law_cell_here"]) fun _ _ _ _ _ _ us hl => match us, hl with | [_], _ => rfl
theorem b_law_one : Binds K T.d_law_one ["_law_cell_here", "_law_k", "_law_base"] [] := T.F_law_one.binds (ps := ["_law_cell_here", "_law_k", "_law_base"]) fun _ _ _ _ _ _ us hl => match us, hl with | [_, _, _], _ => rfl
theorem b_law_set : Binds K T.d_law_set ["_law_book", "_law_name", "_law_answer"] [] := T.F_law_set.binds (ps := ["_law_book", "_law_name", "_law_answer"]) fun _ _ _ _ _ _ us hl => match us, hl with | [_, _, _], _ => rfl
theorem b_law_unknown : Binds K T.d_law_unknown ["_law_book", "_law_name"] [] := T.F_law_unknown.binds (ps := ["_law_book", "_law_name"]) fun _ _ _ _ _ _ us hl => match us, hl with | [_, _], _ => rfl
theorem b_law : Binds K T.d_law ["_law_script"] [] := T.F_law.binds (ps := ["_law_script"]) fun _ _ _ _ _ _ us hl => match us, hl with | [_], _ => rfl
end
theorem all_mk {w : World} {K : PySem.W.Frag} {h : Heap} {mg : Str → Option Value} {fa c_StampError c_BadEntry c_BadAnswer c_BadSetting c_Book f_BadEntry_init f_BadAnswer_init f_BadSetting_init f_Book_init f_Book_copy f_Book_getitem f_Book_setitem f_answers_at f_check_answer f_is_keep f_law_cell f_law_row f_law_entries f_law_choices f_law_table f_law_one f_law_set f_law_unknown f_law o_ENTRIES o_ANSWERS o0_ANSWERS o1_ANSWERS o2_ANSWERS o3_ANSWERS o4_ANSWERS o5_ANSWERS o6_ANSWERS o7_ANSWERS o8_ANSWERS o9_ANSWERS o10_ANSWERS o11_ANSWERS o12_ANSWERS o13_ANSWERS : Addr} (X : K.In h) (G : h.Ns mainGlobals mg) (hfa : mg "law" = some (.ref fa))
    {nm_StampError q_StampError : Str} {N_StampError : Addr} {bs_StampError : List Value} {sn_StampError : List Str} {sub_StampError : List Value} {ab_StampError : Bool} {col_StampError : Option Bool} {dd_StampError : Option Addr} {m0_StampError m1_StampError m2_StampError m3_StampError m5_StampError : Option Value}
    {nm_BadEntry q_BadEntry : Str} {N_BadEntry : Addr} {bs_BadEntry : List Value} {sn_BadEntry : List Str} {sub_BadEntry : List Value} {ab_BadEntry : Bool} {col_BadEntry : Option Bool} {dd_BadEntry : Option Addr} {m0_BadEntry m1_BadEntry m2_BadEntry m3_BadEntry m5_BadEntry : Option Value}
    {nm_BadAnswer q_BadAnswer : Str} {N_BadAnswer : Addr} {bs_BadAnswer : List Value} {sn_BadAnswer : List Str} {sub_BadAnswer : List Value} {ab_BadAnswer : Bool} {col_BadAnswer : Option Bool} {dd_BadAnswer : Option Addr} {m0_BadAnswer m1_BadAnswer m2_BadAnswer m3_BadAnswer m5_BadAnswer : Option Value}
    {nm_BadSetting q_BadSetting : Str} {N_BadSetting : Addr} {bs_BadSetting : List Value} {sn_BadSetting : List Str} {sub_BadSetting : List Value} {ab_BadSetting : Bool} {col_BadSetting : Option Bool} {dd_BadSetting : Option Addr} {m0_BadSetting m1_BadSetting m2_BadSetting m3_BadSetting m5_BadSetting : Option Value}
    {od_BadEntry_init an_BadEntry_init : Option Addr} {sl_BadEntry_init : Array (Option Value)} {oc_BadEntry_init kV_BadEntry_init dc_BadEntry_init pm_BadEntry_init ct_BadEntry_init : Value}
    {cc_BadEntry_init cdr_BadEntry_init : Addr} {ccl_BadEntry_init cdo_BadEntry_init : Value} {cdd_BadEntry_init cod_BadEntry_init : Option Addr} {ccs_BadEntry_init cos_BadEntry_init : Array (Option Value)} {cvs_BadEntry_init : Array Value} {cfile_BadEntry_init : Str} {ctk_BadEntry_init : Tok}
    {od_BadAnswer_init an_BadAnswer_init : Option Addr} {sl_BadAnswer_init : Array (Option Value)} {oc_BadAnswer_init kV_BadAnswer_init dc_BadAnswer_init pm_BadAnswer_init ct_BadAnswer_init : Value}
    {cc_BadAnswer_init cdr_BadAnswer_init : Addr} {ccl_BadAnswer_init cdo_BadAnswer_init : Value} {cdd_BadAnswer_init cod_BadAnswer_init : Option Addr} {ccs_BadAnswer_init cos_BadAnswer_init : Array (Option Value)} {cvs_BadAnswer_init : Array Value} {cfile_BadAnswer_init : Str} {ctk_BadAnswer_init : Tok}
    {od_BadSetting_init an_BadSetting_init : Option Addr} {sl_BadSetting_init : Array (Option Value)} {oc_BadSetting_init kV_BadSetting_init dc_BadSetting_init pm_BadSetting_init ct_BadSetting_init : Value}
    {cc_BadSetting_init cdr_BadSetting_init : Addr} {ccl_BadSetting_init cdo_BadSetting_init : Value} {cdd_BadSetting_init cod_BadSetting_init : Option Addr} {ccs_BadSetting_init cos_BadSetting_init : Array (Option Value)} {cvs_BadSetting_init : Array Value} {cfile_BadSetting_init : Str} {ctk_BadSetting_init : Tok}
    {od_Book_init an_Book_init : Option Addr} {sl_Book_init : Array (Option Value)} {oc_Book_init dc_Book_init pm_Book_init ct_Book_init : Value}
    {cd_Book_init : Value}
    {KD_Book_init : Addr}
    {tq0_Book_init : Tok}
    {tq1_Book_init : Tok}
    {T_Book_init : Addr} {Tn_Book_init : Nat}
    {Tc_Book_init : Value} {Td_Book_init : Option Addr} {Ts_Book_init : Array (Option Value)}
    {od_Book_copy an_Book_copy : Option Addr} {sl_Book_copy : Array (Option Value)} {oc_Book_copy kV_Book_copy dc_Book_copy pm_Book_copy ct_Book_copy : Value}
    {cd_Book_copy : Value}
    {od_Book_getitem an_Book_getitem : Option Addr} {sl_Book_getitem : Array (Option Value)} {oc_Book_getitem kV_Book_getitem dc_Book_getitem pm_Book_getitem ct_Book_getitem : Value}
    {cd_Book_getitem : Value}
    {od_Book_setitem an_Book_setitem : Option Addr} {sl_Book_setitem : Array (Option Value)} {oc_Book_setitem kV_Book_setitem dc_Book_setitem pm_Book_setitem ct_Book_setitem : Value}
    {cd_Book_setitem : Value}
    {od_answers_at an_answers_at : Option Addr} {sl_answers_at : Array (Option Value)} {oc_answers_at kV_answers_at dc_answers_at pm_answers_at ct_answers_at : Value}
    {cd_answers_at : Value}
    {od_check_answer an_check_answer : Option Addr} {sl_check_answer : Array (Option Value)} {oc_check_answer kV_check_answer dc_check_answer pm_check_answer ct_check_answer : Value}
    {cd_check_answer : Value}
    {od_is_keep an_is_keep : Option Addr} {sl_is_keep : Array (Option Value)} {oc_is_keep kV_is_keep dc_is_keep pm_is_keep ct_is_keep : Value}
    {cd_is_keep : Value}
    {od_law_cell an_law_cell : Option Addr} {sl_law_cell : Array (Option Value)} {oc_law_cell kV_law_cell dc_law_cell pm_law_cell ct_law_cell : Value}
    {cd_law_cell : Value}
    {od_law_row an_law_row : Option Addr} {sl_law_row : Array (Option Value)} {oc_law_row kV_law_row dc_law_row pm_law_row ct_law_row : Value}
    {cd_law_row : Value}
    {od_law_entries an_law_entries : Option Addr} {sl_law_entries : Array (Option Value)} {oc_law_entries kV_law_entries dc_law_entries pm_law_entries ct_law_entries : Value}
    {cd_law_entries : Value}
    {od_law_choices an_law_choices : Option Addr} {sl_law_choices : Array (Option Value)} {oc_law_choices kV_law_choices dc_law_choices pm_law_choices ct_law_choices : Value}
    {cd_law_choices : Value}
    {od_law_table an_law_table : Option Addr} {sl_law_table : Array (Option Value)} {oc_law_table kV_law_table dc_law_table pm_law_table ct_law_table : Value}
    {cd_law_table : Value}
    {od_law_one an_law_one : Option Addr} {sl_law_one : Array (Option Value)} {oc_law_one kV_law_one dc_law_one pm_law_one ct_law_one : Value}
    {cd_law_one : Value}
    {od_law_set an_law_set : Option Addr} {sl_law_set : Array (Option Value)} {oc_law_set kV_law_set dc_law_set pm_law_set ct_law_set : Value}
    {cd_law_set : Value}
    {od_law_unknown an_law_unknown : Option Addr} {sl_law_unknown : Array (Option Value)} {oc_law_unknown kV_law_unknown dc_law_unknown pm_law_unknown ct_law_unknown : Value}
    {cd_law_unknown : Value}
    {od_law an_law : Option Addr} {sl_law : Array (Option Value)} {oc_law kV_law dc_law pm_law ct_law : Value}
    {cd_law : Value}
    {u0_ENTRIES u1_ENTRIES u2_ENTRIES u3_ENTRIES u4_ENTRIES u5_ENTRIES u6_ENTRIES u7_ENTRIES u8_ENTRIES u9_ENTRIES u10_ENTRIES u11_ENTRIES u12_ENTRIES u13_ENTRIES : Tok}
    {td_ENTRIES : Option Addr} {tn_ENTRIES : Nat} {ts_ENTRIES : Array (Option Value)}
    {h0_ANSWERS : Int} {tk0_ANSWERS : Tok}
    {h1_ANSWERS : Int} {tk1_ANSWERS : Tok}
    {h2_ANSWERS : Int} {tk2_ANSWERS : Tok}
    {h3_ANSWERS : Int} {tk3_ANSWERS : Tok}
    {h4_ANSWERS : Int} {tk4_ANSWERS : Tok}
    {h5_ANSWERS : Int} {tk5_ANSWERS : Tok}
    {h6_ANSWERS : Int} {tk6_ANSWERS : Tok}
    {h7_ANSWERS : Int} {tk7_ANSWERS : Tok}
    {h8_ANSWERS : Int} {tk8_ANSWERS : Tok}
    {h9_ANSWERS : Int} {tk9_ANSWERS : Tok}
    {h10_ANSWERS : Int} {tk10_ANSWERS : Tok}
    {h11_ANSWERS : Int} {tk11_ANSWERS : Tok}
    {h12_ANSWERS : Int} {tk12_ANSWERS : Tok}
    {h13_ANSWERS : Int} {tk13_ANSWERS : Tok}
    {ep_ANSWERS : Nat}
    {u0_0_ANSWERS u1_0_ANSWERS u2_0_ANSWERS : Tok}
    {td_0_ANSWERS : Option Addr} {tn_0_ANSWERS : Nat} {ts_0_ANSWERS : Array (Option Value)}
    {u0_1_ANSWERS u1_1_ANSWERS u2_1_ANSWERS u3_1_ANSWERS u4_1_ANSWERS : Tok}
    {td_1_ANSWERS : Option Addr} {tn_1_ANSWERS : Nat} {ts_1_ANSWERS : Array (Option Value)}
    {u0_2_ANSWERS u1_2_ANSWERS u2_2_ANSWERS u3_2_ANSWERS : Tok}
    {td_2_ANSWERS : Option Addr} {tn_2_ANSWERS : Nat} {ts_2_ANSWERS : Array (Option Value)}
    {u0_3_ANSWERS u1_3_ANSWERS u2_3_ANSWERS u3_3_ANSWERS : Tok}
    {td_3_ANSWERS : Option Addr} {tn_3_ANSWERS : Nat} {ts_3_ANSWERS : Array (Option Value)}
    {u0_4_ANSWERS u1_4_ANSWERS : Tok}
    {td_4_ANSWERS : Option Addr} {tn_4_ANSWERS : Nat} {ts_4_ANSWERS : Array (Option Value)}
    {u0_5_ANSWERS u1_5_ANSWERS u2_5_ANSWERS u3_5_ANSWERS : Tok}
    {td_5_ANSWERS : Option Addr} {tn_5_ANSWERS : Nat} {ts_5_ANSWERS : Array (Option Value)}
    {u0_6_ANSWERS u1_6_ANSWERS u2_6_ANSWERS u3_6_ANSWERS : Tok}
    {td_6_ANSWERS : Option Addr} {tn_6_ANSWERS : Nat} {ts_6_ANSWERS : Array (Option Value)}
    {u0_7_ANSWERS u1_7_ANSWERS u2_7_ANSWERS u3_7_ANSWERS : Tok}
    {td_7_ANSWERS : Option Addr} {tn_7_ANSWERS : Nat} {ts_7_ANSWERS : Array (Option Value)}
    {u0_8_ANSWERS u1_8_ANSWERS : Tok}
    {td_8_ANSWERS : Option Addr} {tn_8_ANSWERS : Nat} {ts_8_ANSWERS : Array (Option Value)}
    {u0_9_ANSWERS u1_9_ANSWERS : Tok}
    {td_9_ANSWERS : Option Addr} {tn_9_ANSWERS : Nat} {ts_9_ANSWERS : Array (Option Value)}
    {u0_10_ANSWERS u1_10_ANSWERS : Tok}
    {td_10_ANSWERS : Option Addr} {tn_10_ANSWERS : Nat} {ts_10_ANSWERS : Array (Option Value)}
    {u0_11_ANSWERS u1_11_ANSWERS u2_11_ANSWERS u3_11_ANSWERS : Tok}
    {td_11_ANSWERS : Option Addr} {tn_11_ANSWERS : Nat} {ts_11_ANSWERS : Array (Option Value)}
    {u0_12_ANSWERS u1_12_ANSWERS u2_12_ANSWERS u3_12_ANSWERS : Tok}
    {td_12_ANSWERS : Option Addr} {tn_12_ANSWERS : Nat} {ts_12_ANSWERS : Array (Option Value)}
    {u0_13_ANSWERS u1_13_ANSWERS u2_13_ANSWERS u3_13_ANSWERS : Tok}
    {td_13_ANSWERS : Option Addr} {tn_13_ANSWERS : Nat} {ts_13_ANSWERS : Array (Option Value)}
    {tk_MOST_KEPT : Tok}
    (z_hn : PySem.W.specialIn K (.builtin "object.__class__") "__get__" = some (some (.builtin "getset_descriptor.__get__")))
    (z_ht : PySem.W.takesIn K (.builtin "object.__class__") = some true)
    (gc_StampError : PySem.W.nsIn K mainGlobals "StampError" = some (some (.ref c_StampError)))
    (kc_StampError : PySem.W.keepIn K (.ref c_StampError) = true)
    (gc_BadEntry : PySem.W.nsIn K mainGlobals "BadEntry" = some (some (.ref c_BadEntry)))
    (kc_BadEntry : PySem.W.keepIn K (.ref c_BadEntry) = true)
    (gc_BadAnswer : PySem.W.nsIn K mainGlobals "BadAnswer" = some (some (.ref c_BadAnswer)))
    (kc_BadAnswer : PySem.W.keepIn K (.ref c_BadAnswer) = true)
    (gc_BadSetting : PySem.W.nsIn K mainGlobals "BadSetting" = some (some (.ref c_BadSetting)))
    (kc_BadSetting : PySem.W.keepIn K (.ref c_BadSetting) = true)
    (gc_Book : PySem.W.nsIn K mainGlobals "Book" = some (some (.ref c_Book)))
    (kc_Book : PySem.W.keepIn K (.ref c_Book) = true)
    (xl_StampError : K.lookup c_StampError = some (excClassObj nm_StampError q_StampError c_StampError N_StampError bs_StampError [.type "ValueError", .type "Exception", .type "BaseException", .type "object"] true sn_StampError sub_StampError ab_StampError col_StampError dd_StampError m0_StampError m1_StampError m2_StampError m3_StampError m5_StampError "ValueError.__new__"))
    (sa_StampError : PySem.W.findIn K (.ref c_StampError) "__setattr__" = some (some (.builtin "object.__setattr__")))
    (xb_StampError : PySem.W.subIn K (.ref c_StampError) (.type "BaseException") = some true)
    (xt_StampError : PySem.W.typeIn K (.ref c_StampError) = some (.type "type"))
    (ga_StampError : PySem.W.findIn K (.ref c_StampError) "__getattribute__" = some (some (.builtin "BaseException.__getattribute__")))
    (gg_StampError : PySem.W.findIn K (.ref c_StampError) "__getattr__" = some none)
    (hd_StampError : PySem.W.hasDictIn K c_StampError = true)
    (ha_StampError : PySem.W.findIn K (.ref c_StampError) "__class__" = some (some (.builtin "object.__class__")))
    (hm_StampError : PySem.W.mroIn K c_StampError (.type "object") = some true)
    (sb_StampError_StampError : PySem.W.subIn K (.ref c_StampError) (.ref c_StampError) = some true)
    (ko_StampError_StampError : PySem.W.kitOne K (.ref c_StampError) (.ref c_StampError) = some true)
    (sb_StampError_BadEntry : PySem.W.subIn K (.ref c_StampError) (.ref c_BadEntry) = some false)
    (ko_StampError_BadEntry : PySem.W.kitOne K (.ref c_StampError) (.ref c_BadEntry) = some false)
    (sb_StampError_BadAnswer : PySem.W.subIn K (.ref c_StampError) (.ref c_BadAnswer) = some false)
    (ko_StampError_BadAnswer : PySem.W.kitOne K (.ref c_StampError) (.ref c_BadAnswer) = some false)
    (sb_StampError_BadSetting : PySem.W.subIn K (.ref c_StampError) (.ref c_BadSetting) = some false)
    (ko_StampError_BadSetting : PySem.W.kitOne K (.ref c_StampError) (.ref c_BadSetting) = some false)
    (kv_StampError : PySem.W.kitOne K (.ref c_StampError) (.type "ValueError") = some true)
    (xl_BadEntry : K.lookup c_BadEntry = some (excClassObj nm_BadEntry q_BadEntry c_BadEntry N_BadEntry bs_BadEntry [.ref c_StampError, .type "ValueError", .type "Exception", .type "BaseException", .type "object"] true sn_BadEntry sub_BadEntry ab_BadEntry col_BadEntry dd_BadEntry m0_BadEntry m1_BadEntry m2_BadEntry m3_BadEntry m5_BadEntry "ValueError.__new__"))
    (sa_BadEntry : PySem.W.findIn K (.ref c_BadEntry) "__setattr__" = some (some (.builtin "object.__setattr__")))
    (xb_BadEntry : PySem.W.subIn K (.ref c_BadEntry) (.type "BaseException") = some true)
    (xt_BadEntry : PySem.W.typeIn K (.ref c_BadEntry) = some (.type "type"))
    (ga_BadEntry : PySem.W.findIn K (.ref c_BadEntry) "__getattribute__" = some (some (.builtin "BaseException.__getattribute__")))
    (gg_BadEntry : PySem.W.findIn K (.ref c_BadEntry) "__getattr__" = some none)
    (hd_BadEntry : PySem.W.hasDictIn K c_BadEntry = true)
    (ha_BadEntry : PySem.W.findIn K (.ref c_BadEntry) "__class__" = some (some (.builtin "object.__class__")))
    (hm_BadEntry : PySem.W.mroIn K c_BadEntry (.type "object") = some true)
    (sb_BadEntry_StampError : PySem.W.subIn K (.ref c_BadEntry) (.ref c_StampError) = some true)
    (ko_BadEntry_StampError : PySem.W.kitOne K (.ref c_BadEntry) (.ref c_StampError) = some true)
    (sb_BadEntry_BadEntry : PySem.W.subIn K (.ref c_BadEntry) (.ref c_BadEntry) = some true)
    (ko_BadEntry_BadEntry : PySem.W.kitOne K (.ref c_BadEntry) (.ref c_BadEntry) = some true)
    (sb_BadEntry_BadAnswer : PySem.W.subIn K (.ref c_BadEntry) (.ref c_BadAnswer) = some false)
    (ko_BadEntry_BadAnswer : PySem.W.kitOne K (.ref c_BadEntry) (.ref c_BadAnswer) = some false)
    (sb_BadEntry_BadSetting : PySem.W.subIn K (.ref c_BadEntry) (.ref c_BadSetting) = some false)
    (ko_BadEntry_BadSetting : PySem.W.kitOne K (.ref c_BadEntry) (.ref c_BadSetting) = some false)
    (kv_BadEntry : PySem.W.kitOne K (.ref c_BadEntry) (.type "ValueError") = some true)
    (na_BadEntry_entry : PySem.W.findIn K (.ref c_BadEntry) "entry" = some none)
    (xl_BadAnswer : K.lookup c_BadAnswer = some (excClassObj nm_BadAnswer q_BadAnswer c_BadAnswer N_BadAnswer bs_BadAnswer [.ref c_StampError, .type "ValueError", .type "Exception", .type "BaseException", .type "object"] true sn_BadAnswer sub_BadAnswer ab_BadAnswer col_BadAnswer dd_BadAnswer m0_BadAnswer m1_BadAnswer m2_BadAnswer m3_BadAnswer m5_BadAnswer "ValueError.__new__"))
    (sa_BadAnswer : PySem.W.findIn K (.ref c_BadAnswer) "__setattr__" = some (some (.builtin "object.__setattr__")))
    (xb_BadAnswer : PySem.W.subIn K (.ref c_BadAnswer) (.type "BaseException") = some true)
    (xt_BadAnswer : PySem.W.typeIn K (.ref c_BadAnswer) = some (.type "type"))
    (ga_BadAnswer : PySem.W.findIn K (.ref c_BadAnswer) "__getattribute__" = some (some (.builtin "BaseException.__getattribute__")))
    (gg_BadAnswer : PySem.W.findIn K (.ref c_BadAnswer) "__getattr__" = some none)
    (hd_BadAnswer : PySem.W.hasDictIn K c_BadAnswer = true)
    (ha_BadAnswer : PySem.W.findIn K (.ref c_BadAnswer) "__class__" = some (some (.builtin "object.__class__")))
    (hm_BadAnswer : PySem.W.mroIn K c_BadAnswer (.type "object") = some true)
    (sb_BadAnswer_StampError : PySem.W.subIn K (.ref c_BadAnswer) (.ref c_StampError) = some true)
    (ko_BadAnswer_StampError : PySem.W.kitOne K (.ref c_BadAnswer) (.ref c_StampError) = some true)
    (sb_BadAnswer_BadEntry : PySem.W.subIn K (.ref c_BadAnswer) (.ref c_BadEntry) = some false)
    (ko_BadAnswer_BadEntry : PySem.W.kitOne K (.ref c_BadAnswer) (.ref c_BadEntry) = some false)
    (sb_BadAnswer_BadAnswer : PySem.W.subIn K (.ref c_BadAnswer) (.ref c_BadAnswer) = some true)
    (ko_BadAnswer_BadAnswer : PySem.W.kitOne K (.ref c_BadAnswer) (.ref c_BadAnswer) = some true)
    (sb_BadAnswer_BadSetting : PySem.W.subIn K (.ref c_BadAnswer) (.ref c_BadSetting) = some false)
    (ko_BadAnswer_BadSetting : PySem.W.kitOne K (.ref c_BadAnswer) (.ref c_BadSetting) = some false)
    (kv_BadAnswer : PySem.W.kitOne K (.ref c_BadAnswer) (.type "ValueError") = some true)
    (na_BadAnswer_answer : PySem.W.findIn K (.ref c_BadAnswer) "answer" = some none)
    (na_BadAnswer_entry : PySem.W.findIn K (.ref c_BadAnswer) "entry" = some none)
    (xl_BadSetting : K.lookup c_BadSetting = some (excClassObj nm_BadSetting q_BadSetting c_BadSetting N_BadSetting bs_BadSetting [.ref c_StampError, .type "ValueError", .type "Exception", .type "BaseException", .type "object"] true sn_BadSetting sub_BadSetting ab_BadSetting col_BadSetting dd_BadSetting m0_BadSetting m1_BadSetting m2_BadSetting m3_BadSetting m5_BadSetting "ValueError.__new__"))
    (sa_BadSetting : PySem.W.findIn K (.ref c_BadSetting) "__setattr__" = some (some (.builtin "object.__setattr__")))
    (xb_BadSetting : PySem.W.subIn K (.ref c_BadSetting) (.type "BaseException") = some true)
    (xt_BadSetting : PySem.W.typeIn K (.ref c_BadSetting) = some (.type "type"))
    (ga_BadSetting : PySem.W.findIn K (.ref c_BadSetting) "__getattribute__" = some (some (.builtin "BaseException.__getattribute__")))
    (gg_BadSetting : PySem.W.findIn K (.ref c_BadSetting) "__getattr__" = some none)
    (hd_BadSetting : PySem.W.hasDictIn K c_BadSetting = true)
    (ha_BadSetting : PySem.W.findIn K (.ref c_BadSetting) "__class__" = some (some (.builtin "object.__class__")))
    (hm_BadSetting : PySem.W.mroIn K c_BadSetting (.type "object") = some true)
    (sb_BadSetting_StampError : PySem.W.subIn K (.ref c_BadSetting) (.ref c_StampError) = some true)
    (ko_BadSetting_StampError : PySem.W.kitOne K (.ref c_BadSetting) (.ref c_StampError) = some true)
    (sb_BadSetting_BadEntry : PySem.W.subIn K (.ref c_BadSetting) (.ref c_BadEntry) = some false)
    (ko_BadSetting_BadEntry : PySem.W.kitOne K (.ref c_BadSetting) (.ref c_BadEntry) = some false)
    (sb_BadSetting_BadAnswer : PySem.W.subIn K (.ref c_BadSetting) (.ref c_BadAnswer) = some false)
    (ko_BadSetting_BadAnswer : PySem.W.kitOne K (.ref c_BadSetting) (.ref c_BadAnswer) = some false)
    (sb_BadSetting_BadSetting : PySem.W.subIn K (.ref c_BadSetting) (.ref c_BadSetting) = some true)
    (ko_BadSetting_BadSetting : PySem.W.kitOne K (.ref c_BadSetting) (.ref c_BadSetting) = some true)
    (kv_BadSetting : PySem.W.kitOne K (.ref c_BadSetting) (.type "ValueError") = some true)
    (na_BadSetting_given : PySem.W.findIn K (.ref c_BadSetting) "given" = some none)
    (pg_Book : PySem.W.plainGet K c_Book Str.empty = true)
    (hd_Book : PySem.W.hasDictIn K c_Book = true)
    (po_Book : PySem.W.plainOver K c_Book = true)
    (sa_Book : PySem.W.findIn K (.ref c_Book) "__setattr__" = some (some (.builtin "object.__setattr__")))
    (mk_Book : PySem.W.makesIn K c_Book = true)
    (ha_Book : PySem.W.findIn K (.ref c_Book) "__class__" = some (some (.builtin "object.__class__")))
    (hm_Book : PySem.W.mroIn K c_Book (.type "object") = some true)
    (ko_Book : PySem.W.kitOne K (.ref c_Book) (.ref c_Book) = some true)
    (na_Book__answers : PySem.W.findIn K (.ref c_Book) "_answers" = some none)
    (na_Book__ends : PySem.W.findIn K (.ref c_Book) "_ends" = some none)
    (na_Book__keep : PySem.W.findIn K (.ref c_Book) "_keep" = some none)
    (a_BadEntry_init : PySem.W.findIn K (.ref c_BadEntry) "__init__" = some (some (.ref f_BadEntry_init)))
    (l_BadEntry_init : K.lookup f_BadEntry_init = some ⟨oc_BadEntry_init, od_BadEntry_init, .func (PySem.W.fnX "__init__" "BadEntry.__init__" (defArgs s_BadEntry_init) (defBody s_BadEntry_init) (defScope s_BadEntry_init) [(("__class__" : Str), cc_BadEntry_init)] .none kV_BadEntry_init dc_BadEntry_init pm_BadEntry_init an_BadEntry_init (.ref cdr_BadEntry_init) ct_BadEntry_init), sl_BadEntry_init⟩)
    (c_BadEntry_init : PySem.W.codeIn K (.ref cdr_BadEntry_init) "BadEntry.__init__" = true)
    (cl_BadEntry_init : K.lookup cc_BadEntry_init = some ⟨ccl_BadEntry_init, cdd_BadEntry_init, .cell (some (.ref c_BadEntry)), ccs_BadEntry_init⟩)
    (cv_BadEntry_init : K.lookup cdr_BadEntry_init = some ⟨cdo_BadEntry_init, cod_BadEntry_init, .fields cvs_BadEntry_init, cos_BadEntry_init⟩)
    (cw_BadEntry_init : cvs_BadEntry_init[2]? = some (.str cfile_BadEntry_init ctk_BadEntry_init))
    (cx_BadEntry_init : ((PySem.Challenge.rw_stamprules_k06_cells_of_a_book.prog.main.file : Str) == cfile_BadEntry_init) = true)
    (tp_BadEntry_init : (PySem.Challenge.rw_stamprules_k06_cells_of_a_book.prog.main.scope.names.lookup ("super" : Str)).isSome = false)
    (su_BadEntry_init : PySem.W.ks_superIn K c_BadEntry c_BadEntry "__init__" = some (some (.builtin "ValueError.__init__")))
    (ve_BadEntry_init : PySem.W.subIn K (.ref c_BadEntry) (.type "ValueError") = some true)
    (md_BadEntry_init : PySem.W.mroIn K c_BadEntry (.ref c_BadEntry) = some true)
    (ti_BadEntry_init : PySem.W.typeIn K (.ref f_BadEntry_init) = some (.type "function"))
    (z_th : PySem.W.nsIn K cStatics "thirdparty.any" = some none)
    (z_su : PySem.W.nsIn K mainGlobals "super" = some none)
    (a_BadAnswer_init : PySem.W.findIn K (.ref c_BadAnswer) "__init__" = some (some (.ref f_BadAnswer_init)))
    (l_BadAnswer_init : K.lookup f_BadAnswer_init = some ⟨oc_BadAnswer_init, od_BadAnswer_init, .func (PySem.W.fnX "__init__" "BadAnswer.__init__" (defArgs s_BadAnswer_init) (defBody s_BadAnswer_init) (defScope s_BadAnswer_init) [(("__class__" : Str), cc_BadAnswer_init)] .none kV_BadAnswer_init dc_BadAnswer_init pm_BadAnswer_init an_BadAnswer_init (.ref cdr_BadAnswer_init) ct_BadAnswer_init), sl_BadAnswer_init⟩)
    (c_BadAnswer_init : PySem.W.codeIn K (.ref cdr_BadAnswer_init) "BadAnswer.__init__" = true)
    (cl_BadAnswer_init : K.lookup cc_BadAnswer_init = some ⟨ccl_BadAnswer_init, cdd_BadAnswer_init, .cell (some (.ref c_BadAnswer)), ccs_BadAnswer_init⟩)
    (cv_BadAnswer_init : K.lookup cdr_BadAnswer_init = some ⟨cdo_BadAnswer_init, cod_BadAnswer_init, .fields cvs_BadAnswer_init, cos_BadAnswer_init⟩)
    (cw_BadAnswer_init : cvs_BadAnswer_init[2]? = some (.str cfile_BadAnswer_init ctk_BadAnswer_init))
    (cx_BadAnswer_init : ((PySem.Challenge.rw_stamprules_k06_cells_of_a_book.prog.main.file : Str) == cfile_BadAnswer_init) = true)
    (tp_BadAnswer_init : (PySem.Challenge.rw_stamprules_k06_cells_of_a_book.prog.main.scope.names.lookup ("super" : Str)).isSome = false)
    (su_BadAnswer_init : PySem.W.ks_superIn K c_BadAnswer c_BadAnswer "__init__" = some (some (.builtin "ValueError.__init__")))
    (ve_BadAnswer_init : PySem.W.subIn K (.ref c_BadAnswer) (.type "ValueError") = some true)
    (md_BadAnswer_init : PySem.W.mroIn K c_BadAnswer (.ref c_BadAnswer) = some true)
    (ti_BadAnswer_init : PySem.W.typeIn K (.ref f_BadAnswer_init) = some (.type "function"))
    (a_BadSetting_init : PySem.W.findIn K (.ref c_BadSetting) "__init__" = some (some (.ref f_BadSetting_init)))
    (l_BadSetting_init : K.lookup f_BadSetting_init = some ⟨oc_BadSetting_init, od_BadSetting_init, .func (PySem.W.fnX "__init__" "BadSetting.__init__" (defArgs s_BadSetting_init) (defBody s_BadSetting_init) (defScope s_BadSetting_init) [(("__class__" : Str), cc_BadSetting_init)] .none kV_BadSetting_init dc_BadSetting_init pm_BadSetting_init an_BadSetting_init (.ref cdr_BadSetting_init) ct_BadSetting_init), sl_BadSetting_init⟩)
    (c_BadSetting_init : PySem.W.codeIn K (.ref cdr_BadSetting_init) "BadSetting.__init__" = true)
    (cl_BadSetting_init : K.lookup cc_BadSetting_init = some ⟨ccl_BadSetting_init, cdd_BadSetting_init, .cell (some (.ref c_BadSetting)), ccs_BadSetting_init⟩)
    (cv_BadSetting_init : K.lookup cdr_BadSetting_init = some ⟨cdo_BadSetting_init, cod_BadSetting_init, .fields cvs_BadSetting_init, cos_BadSetting_init⟩)
    (cw_BadSetting_init : cvs_BadSetting_init[2]? = some (.str cfile_BadSetting_init ctk_BadSetting_init))
    (cx_BadSetting_init : ((PySem.Challenge.rw_stamprules_k06_cells_of_a_book.prog.main.file : Str) == cfile_BadSetting_init) = true)
    (tp_BadSetting_init : (PySem.Challenge.rw_stamprules_k06_cells_of_a_book.prog.main.scope.names.lookup ("super" : Str)).isSome = false)
    (su_BadSetting_init : PySem.W.ks_superIn K c_BadSetting c_BadSetting "__init__" = some (some (.builtin "ValueError.__init__")))
    (ve_BadSetting_init : PySem.W.subIn K (.ref c_BadSetting) (.type "ValueError") = some true)
    (md_BadSetting_init : PySem.W.mroIn K c_BadSetting (.ref c_BadSetting) = some true)
    (ti_BadSetting_init : PySem.W.typeIn K (.ref f_BadSetting_init) = some (.type "function"))
    (a_Book_init : PySem.W.findIn K (.ref c_Book) "__init__" = some (some (.ref f_Book_init)))
    (l_Book_init : K.lookup f_Book_init = some ⟨oc_Book_init, od_Book_init, .func (PySem.W.fnOf "__init__" "Book.__init__" (defArgs s_Book_init) (defBody s_Book_init) (defScope s_Book_init) (.ref T_Book_init) (.ref KD_Book_init) dc_Book_init pm_Book_init an_Book_init cd_Book_init ct_Book_init), sl_Book_init⟩)
    (c_Book_init : PySem.W.codeIn K cd_Book_init "Book.__init__" = true)
    (k_Book_init : PySem.W.keepIn K (.ref f_Book_init) = true)
    (kw0_Book_init : PySem.W.nsIn K KD_Book_init "ends" = some (some (.str "now" tq0_Book_init)))
    (kw1_Book_init : PySem.W.nsIn K KD_Book_init "keep" = some (some (.int 1 tq1_Book_init)))
    (T1_Book_init : K.lookup T_Book_init = some ⟨Tc_Book_init, Td_Book_init, .seq #[.none] Tn_Book_init, Ts_Book_init⟩)
    (fn_Book_init : PySem.W.isFn K (.ref f_Book_init) = true)
    (a_Book_copy : PySem.W.findIn K (.ref c_Book) "copy" = some (some (.ref f_Book_copy)))
    (l_Book_copy : K.lookup f_Book_copy = some ⟨oc_Book_copy, od_Book_copy, .func (PySem.W.fnOf "copy" "Book.copy" (defArgs s_Book_copy) (defBody s_Book_copy) (defScope s_Book_copy) .none kV_Book_copy dc_Book_copy pm_Book_copy an_Book_copy cd_Book_copy ct_Book_copy), sl_Book_copy⟩)
    (c_Book_copy : PySem.W.codeIn K cd_Book_copy "Book.copy" = true)
    (k_Book_copy : PySem.W.keepIn K (.ref f_Book_copy) = true)
    (fn_Book_copy : PySem.W.isFn K (.ref f_Book_copy) = true)
    (a_Book_getitem : PySem.W.findIn K (.ref c_Book) "__getitem__" = some (some (.ref f_Book_getitem)))
    (l_Book_getitem : K.lookup f_Book_getitem = some ⟨oc_Book_getitem, od_Book_getitem, .func (PySem.W.fnOf "__getitem__" "Book.__getitem__" (defArgs s_Book_getitem) (defBody s_Book_getitem) (defScope s_Book_getitem) .none kV_Book_getitem dc_Book_getitem pm_Book_getitem an_Book_getitem cd_Book_getitem ct_Book_getitem), sl_Book_getitem⟩)
    (c_Book_getitem : PySem.W.codeIn K cd_Book_getitem "Book.__getitem__" = true)
    (k_Book_getitem : PySem.W.keepIn K (.ref f_Book_getitem) = true)
    (fn_Book_getitem : PySem.W.isFn K (.ref f_Book_getitem) = true)
    (nd_Book : PySem.W.mroIn K c_Book (.type "collections.deque") = some false)
    (fi_Book_getitem : PySem.W.fnIn K f_Book_getitem = true)
    (a_Book_setitem : PySem.W.findIn K (.ref c_Book) "__setitem__" = some (some (.ref f_Book_setitem)))
    (l_Book_setitem : K.lookup f_Book_setitem = some ⟨oc_Book_setitem, od_Book_setitem, .func (PySem.W.fnOf "__setitem__" "Book.__setitem__" (defArgs s_Book_setitem) (defBody s_Book_setitem) (defScope s_Book_setitem) .none kV_Book_setitem dc_Book_setitem pm_Book_setitem an_Book_setitem cd_Book_setitem ct_Book_setitem), sl_Book_setitem⟩)
    (c_Book_setitem : PySem.W.codeIn K cd_Book_setitem "Book.__setitem__" = true)
    (k_Book_setitem : PySem.W.keepIn K (.ref f_Book_setitem) = true)
    (fn_Book_setitem : PySem.W.isFn K (.ref f_Book_setitem) = true)
    (a_answers_at : PySem.W.nsIn K mainGlobals "answers_at" = some (some (.ref f_answers_at)))
    (l_answers_at : K.lookup f_answers_at = some ⟨oc_answers_at, od_answers_at, .func (PySem.W.fnOf "answers_at" "answers_at" (defArgs s_answers_at) (defBody s_answers_at) (defScope s_answers_at) .none kV_answers_at dc_answers_at pm_answers_at an_answers_at cd_answers_at ct_answers_at), sl_answers_at⟩)
    (c_answers_at : PySem.W.codeIn K cd_answers_at "answers_at" = true)
    (k_answers_at : PySem.W.keepIn K (.ref f_answers_at) = true)
    (a_check_answer : PySem.W.nsIn K mainGlobals "check_answer" = some (some (.ref f_check_answer)))
    (l_check_answer : K.lookup f_check_answer = some ⟨oc_check_answer, od_check_answer, .func (PySem.W.fnOf "check_answer" "check_answer" (defArgs s_check_answer) (defBody s_check_answer) (defScope s_check_answer) .none kV_check_answer dc_check_answer pm_check_answer an_check_answer cd_check_answer ct_check_answer), sl_check_answer⟩)
    (c_check_answer : PySem.W.codeIn K cd_check_answer "check_answer" = true)
    (k_check_answer : PySem.W.keepIn K (.ref f_check_answer) = true)
    (a_is_keep : PySem.W.nsIn K mainGlobals "is_keep" = some (some (.ref f_is_keep)))
    (l_is_keep : K.lookup f_is_keep = some ⟨oc_is_keep, od_is_keep, .func (PySem.W.fnOf "is_keep" "is_keep" (defArgs s_is_keep) (defBody s_is_keep) (defScope s_is_keep) .none kV_is_keep dc_is_keep pm_is_keep an_is_keep cd_is_keep ct_is_keep), sl_is_keep⟩)
    (c_is_keep : PySem.W.codeIn K cd_is_keep "is_keep" = true)
    (k_is_keep : PySem.W.keepIn K (.ref f_is_keep) = true)
    (a_law_cell : PySem.W.nsIn K mainGlobals "_law_cell" = some (some (.ref f_law_cell)))
    (l_law_cell : K.lookup f_law_cell = some ⟨oc_law_cell, od_law_cell, .func (PySem.W.fnOf "_law_cell" "_law_cell" (defArgs s_law_cell) (defBody s_law_cell) (defScope s_law_cell) .none kV_law_cell dc_law_cell pm_law_cell an_law_cell cd_law_cell ct_law_cell), sl_law_cell⟩)
    (c_law_cell : PySem.W.codeIn K cd_law_cell "_law_cell" = true)
    (k_law_cell : PySem.W.keepIn K (.ref f_law_cell) = true)
    (a_law_row : PySem.W.nsIn K mainGlobals "_law_row" = some (some (.ref f_law_row)))
    (l_law_row : K.lookup f_law_row = some ⟨oc_law_row, od_law_row, .func (PySem.W.fnOf "_law_row" "_law_row" (defArgs s_law_row) (defBody s_law_row) (defScope s_law_row) .none kV_law_row dc_law_row pm_law_row an_law_row cd_law_row ct_law_row), sl_law_row⟩)
    (c_law_row : PySem.W.codeIn K cd_law_row "_law_row" = true)
    (k_law_row : PySem.W.keepIn K (.ref f_law_row) = true)
    (a_law_entries : PySem.W.nsIn K mainGlobals "_law_entries" = some (some (.ref f_law_entries)))
    (l_law_entries : K.lookup f_law_entries = some ⟨oc_law_entries, od_law_entries, .func (PySem.W.fnOf "_law_entries" "_law_entries" (defArgs s_law_entries) (defBody s_law_entries) (defScope s_law_entries) .none kV_law_entries dc_law_entries pm_law_entries an_law_entries cd_law_entries ct_law_entries), sl_law_entries⟩)
    (c_law_entries : PySem.W.codeIn K cd_law_entries "_law_entries" = true)
    (k_law_entries : PySem.W.keepIn K (.ref f_law_entries) = true)
    (a_law_choices : PySem.W.nsIn K mainGlobals "_law_choices" = some (some (.ref f_law_choices)))
    (l_law_choices : K.lookup f_law_choices = some ⟨oc_law_choices, od_law_choices, .func (PySem.W.fnOf "_law_choices" "_law_choices" (defArgs s_law_choices) (defBody s_law_choices) (defScope s_law_choices) .none kV_law_choices dc_law_choices pm_law_choices an_law_choices cd_law_choices ct_law_choices), sl_law_choices⟩)
    (c_law_choices : PySem.W.codeIn K cd_law_choices "_law_choices" = true)
    (k_law_choices : PySem.W.keepIn K (.ref f_law_choices) = true)
    (a_law_table : PySem.W.nsIn K mainGlobals "_law_table" = some (some (.ref f_law_table)))
    (l_law_table : K.lookup f_law_table = some ⟨oc_law_table, od_law_table, .func (PySem.W.fnOf "_law_table" "_law_table" (defArgs s_law_table) (defBody s_law_table) (defScope s_law_table) .none kV_law_table dc_law_table pm_law_table an_law_table cd_law_table ct_law_table), sl_law_table⟩)
    (c_law_table : PySem.W.codeIn K cd_law_table "_law_table" = true)
    (k_law_table : PySem.W.keepIn K (.ref f_law_table) = true)
    (a_law_one : PySem.W.nsIn K mainGlobals "_law_one" = some (some (.ref f_law_one)))
    (l_law_one : K.lookup f_law_one = some ⟨oc_law_one, od_law_one, .func (PySem.W.fnOf "_law_one" "_law_one" (defArgs s_law_one) (defBody s_law_one) (defScope s_law_one) .none kV_law_one dc_law_one pm_law_one an_law_one cd_law_one ct_law_one), sl_law_one⟩)
    (c_law_one : PySem.W.codeIn K cd_law_one "_law_one" = true)
    (k_law_one : PySem.W.keepIn K (.ref f_law_one) = true)
    (a_law_set : PySem.W.nsIn K mainGlobals "_law_set" = some (some (.ref f_law_set)))
    (l_law_set : K.lookup f_law_set = some ⟨oc_law_set, od_law_set, .func (PySem.W.fnOf "_law_set" "_law_set" (defArgs s_law_set) (defBody s_law_set) (defScope s_law_set) .none kV_law_set dc_law_set pm_law_set an_law_set cd_law_set ct_law_set), sl_law_set⟩)
    (c_law_set : PySem.W.codeIn K cd_law_set "_law_set" = true)
    (k_law_set : PySem.W.keepIn K (.ref f_law_set) = true)
    (a_law_unknown : PySem.W.nsIn K mainGlobals "_law_unknown" = some (some (.ref f_law_unknown)))
    (l_law_unknown : K.lookup f_law_unknown = some ⟨oc_law_unknown, od_law_unknown, .func (PySem.W.fnOf "_law_unknown" "_law_unknown" (defArgs s_law_unknown) (defBody s_law_unknown) (defScope s_law_unknown) .none kV_law_unknown dc_law_unknown pm_law_unknown an_law_unknown cd_law_unknown ct_law_unknown), sl_law_unknown⟩)
    (c_law_unknown : PySem.W.codeIn K cd_law_unknown "_law_unknown" = true)
    (k_law_unknown : PySem.W.keepIn K (.ref f_law_unknown) = true)
    (a_law : PySem.W.nsIn K mainGlobals "law" = some (some (.ref f_law)))
    (l_law : K.lookup f_law = some ⟨oc_law, od_law, .func (PySem.W.fnOf "law" "law" (defArgs s_law) (defBody s_law) (defScope s_law) .none kV_law dc_law pm_law an_law cd_law ct_law), sl_law⟩)
    (c_law : PySem.W.codeIn K cd_law "law" = true)
    (k_law : PySem.W.keepIn K (.ref f_law) = true)
    (gv_ENTRIES : PySem.W.nsIn K mainGlobals "ENTRIES" = some (some (.ref o_ENTRIES)))
    (tl_ENTRIES : K.lookup o_ENTRIES = some ⟨.type "tuple", td_ENTRIES, .seq #[.str "read late" u0_ENTRIES, .str "read under" u1_ENTRIES, .str "read below" u2_ENTRIES, .str "read above" u3_ENTRIES, .str "write late" u4_ENTRIES, .str "write under" u5_ENTRIES, .str "write below" u6_ENTRIES, .str "write above" u7_ENTRIES, .str "write free passed" u8_ENTRIES, .str "write own passed" u9_ENTRIES, .str "write late passed" u10_ENTRIES, .str "write under passed" u11_ENTRIES, .str "write below passed" u12_ENTRIES, .str "write above passed" u13_ENTRIES] tn_ENTRIES, ts_ENTRIES⟩)
    (gv_ANSWERS : PySem.W.nsIn K mainGlobals "ANSWERS" = some (some (.ref o_ANSWERS)))
    (dl_ANSWERS : K.lookup o_ANSWERS = some ⟨.type "dict", none, .dict #[⟨h0_ANSWERS, .str "read late" tk0_ANSWERS, .ref o0_ANSWERS⟩, ⟨h1_ANSWERS, .str "read under" tk1_ANSWERS, .ref o1_ANSWERS⟩, ⟨h2_ANSWERS, .str "read below" tk2_ANSWERS, .ref o2_ANSWERS⟩, ⟨h3_ANSWERS, .str "read above" tk3_ANSWERS, .ref o3_ANSWERS⟩, ⟨h4_ANSWERS, .str "write late" tk4_ANSWERS, .ref o4_ANSWERS⟩, ⟨h5_ANSWERS, .str "write under" tk5_ANSWERS, .ref o5_ANSWERS⟩, ⟨h6_ANSWERS, .str "write below" tk6_ANSWERS, .ref o6_ANSWERS⟩, ⟨h7_ANSWERS, .str "write above" tk7_ANSWERS, .ref o7_ANSWERS⟩, ⟨h8_ANSWERS, .str "write free passed" tk8_ANSWERS, .ref o8_ANSWERS⟩, ⟨h9_ANSWERS, .str "write own passed" tk9_ANSWERS, .ref o9_ANSWERS⟩, ⟨h10_ANSWERS, .str "write late passed" tk10_ANSWERS, .ref o10_ANSWERS⟩, ⟨h11_ANSWERS, .str "write under passed" tk11_ANSWERS, .ref o11_ANSWERS⟩, ⟨h12_ANSWERS, .str "write below passed" tk12_ANSWERS, .ref o12_ANSWERS⟩, ⟨h13_ANSWERS, .str "write above passed" tk13_ANSWERS, .ref o13_ANSWERS⟩] ep_ANSWERS, #[]⟩)
    (dk_ANSWERS : PySem.W.KeysLit w.params [⟨h0_ANSWERS, .str "read late" tk0_ANSWERS, .ref o0_ANSWERS⟩, ⟨h1_ANSWERS, .str "read under" tk1_ANSWERS, .ref o1_ANSWERS⟩, ⟨h2_ANSWERS, .str "read below" tk2_ANSWERS, .ref o2_ANSWERS⟩, ⟨h3_ANSWERS, .str "read above" tk3_ANSWERS, .ref o3_ANSWERS⟩, ⟨h4_ANSWERS, .str "write late" tk4_ANSWERS, .ref o4_ANSWERS⟩, ⟨h5_ANSWERS, .str "write under" tk5_ANSWERS, .ref o5_ANSWERS⟩, ⟨h6_ANSWERS, .str "write below" tk6_ANSWERS, .ref o6_ANSWERS⟩, ⟨h7_ANSWERS, .str "write above" tk7_ANSWERS, .ref o7_ANSWERS⟩, ⟨h8_ANSWERS, .str "write free passed" tk8_ANSWERS, .ref o8_ANSWERS⟩, ⟨h9_ANSWERS, .str "write own passed" tk9_ANSWERS, .ref o9_ANSWERS⟩, ⟨h10_ANSWERS, .str "write late passed" tk10_ANSWERS, .ref o10_ANSWERS⟩, ⟨h11_ANSWERS, .str "write under passed" tk11_ANSWERS, .ref o11_ANSWERS⟩, ⟨h12_ANSWERS, .str "write below passed" tk12_ANSWERS, .ref o12_ANSWERS⟩, ⟨h13_ANSWERS, .str "write above passed" tk13_ANSWERS, .ref o13_ANSWERS⟩])
    (ds_ANSWERS : (o_ANSWERS == sysModules) = false)
    (tl_0_ANSWERS : K.lookup o0_ANSWERS = some ⟨.type "tuple", td_0_ANSWERS, .seq #[.str "last" u0_0_ANSWERS, .str "old" u1_0_ANSWERS, .str "abort" u2_0_ANSWERS] tn_0_ANSWERS, ts_0_ANSWERS⟩)
    (tl_1_ANSWERS : K.lookup o1_ANSWERS = some ⟨.type "tuple", td_1_ANSWERS, .seq #[.str "last" u0_1_ANSWERS, .str "old" u1_1_ANSWERS, .str "open" u2_1_ANSWERS, .str "wait" u3_1_ANSWERS, .str "abort" u4_1_ANSWERS] tn_1_ANSWERS, ts_1_ANSWERS⟩)
    (tl_2_ANSWERS : K.lookup o2_ANSWERS = some ⟨.type "tuple", td_2_ANSWERS, .seq #[.str "last" u0_2_ANSWERS, .str "open" u1_2_ANSWERS, .str "wait" u2_2_ANSWERS, .str "abort" u3_2_ANSWERS] tn_2_ANSWERS, ts_2_ANSWERS⟩)
    (tl_3_ANSWERS : K.lookup o3_ANSWERS = some ⟨.type "tuple", td_3_ANSWERS, .seq #[.str "last" u0_3_ANSWERS, .str "open" u1_3_ANSWERS, .str "wait" u2_3_ANSWERS, .str "abort" u3_3_ANSWERS] tn_3_ANSWERS, ts_3_ANSWERS⟩)
    (tl_4_ANSWERS : K.lookup o4_ANSWERS = some ⟨.type "tuple", td_4_ANSWERS, .seq #[.str "skip" u0_4_ANSWERS, .str "abort" u1_4_ANSWERS] tn_4_ANSWERS, ts_4_ANSWERS⟩)
    (tl_5_ANSWERS : K.lookup o5_ANSWERS = some ⟨.type "tuple", td_5_ANSWERS, .seq #[.str "skip" u0_5_ANSWERS, .str "wait" u1_5_ANSWERS, .str "wound" u2_5_ANSWERS, .str "abort" u3_5_ANSWERS] tn_5_ANSWERS, ts_5_ANSWERS⟩)
    (tl_6_ANSWERS : K.lookup o6_ANSWERS = some ⟨.type "tuple", td_6_ANSWERS, .seq #[.str "skip" u0_6_ANSWERS, .str "wait" u1_6_ANSWERS, .str "wound" u2_6_ANSWERS, .str "abort" u3_6_ANSWERS] tn_6_ANSWERS, ts_6_ANSWERS⟩)
    (tl_7_ANSWERS : K.lookup o7_ANSWERS = some ⟨.type "tuple", td_7_ANSWERS, .seq #[.str "skip" u0_7_ANSWERS, .str "wait" u1_7_ANSWERS, .str "wound" u2_7_ANSWERS, .str "abort" u3_7_ANSWERS] tn_7_ANSWERS, ts_7_ANSWERS⟩)
    (tl_8_ANSWERS : K.lookup o8_ANSWERS = some ⟨.type "tuple", td_8_ANSWERS, .seq #[.str "put" u0_8_ANSWERS, .str "abort" u1_8_ANSWERS] tn_8_ANSWERS, ts_8_ANSWERS⟩)
    (tl_9_ANSWERS : K.lookup o9_ANSWERS = some ⟨.type "tuple", td_9_ANSWERS, .seq #[.str "put" u0_9_ANSWERS, .str "abort" u1_9_ANSWERS] tn_9_ANSWERS, ts_9_ANSWERS⟩)
    (tl_10_ANSWERS : K.lookup o10_ANSWERS = some ⟨.type "tuple", td_10_ANSWERS, .seq #[.str "skip" u0_10_ANSWERS, .str "abort" u1_10_ANSWERS] tn_10_ANSWERS, ts_10_ANSWERS⟩)
    (tl_11_ANSWERS : K.lookup o11_ANSWERS = some ⟨.type "tuple", td_11_ANSWERS, .seq #[.str "skip" u0_11_ANSWERS, .str "wait" u1_11_ANSWERS, .str "wound" u2_11_ANSWERS, .str "abort" u3_11_ANSWERS] tn_11_ANSWERS, ts_11_ANSWERS⟩)
    (tl_12_ANSWERS : K.lookup o12_ANSWERS = some ⟨.type "tuple", td_12_ANSWERS, .seq #[.str "skip" u0_12_ANSWERS, .str "wait" u1_12_ANSWERS, .str "wound" u2_12_ANSWERS, .str "abort" u3_12_ANSWERS] tn_12_ANSWERS, ts_12_ANSWERS⟩)
    (tl_13_ANSWERS : K.lookup o13_ANSWERS = some ⟨.type "tuple", td_13_ANSWERS, .seq #[.str "skip" u0_13_ANSWERS, .str "wait" u1_13_ANSWERS, .str "wound" u2_13_ANSWERS, .str "abort" u3_13_ANSWERS] tn_13_ANSWERS, ts_13_ANSWERS⟩)
    (dn0_ANSWERS : PySem.W.nsIn K o_ANSWERS "read late" = some (some (.ref o0_ANSWERS)))
    (dn1_ANSWERS : PySem.W.nsIn K o_ANSWERS "read under" = some (some (.ref o1_ANSWERS)))
    (dn2_ANSWERS : PySem.W.nsIn K o_ANSWERS "read below" = some (some (.ref o2_ANSWERS)))
    (dn3_ANSWERS : PySem.W.nsIn K o_ANSWERS "read above" = some (some (.ref o3_ANSWERS)))
    (dn4_ANSWERS : PySem.W.nsIn K o_ANSWERS "write late" = some (some (.ref o4_ANSWERS)))
    (dn5_ANSWERS : PySem.W.nsIn K o_ANSWERS "write under" = some (some (.ref o5_ANSWERS)))
    (dn6_ANSWERS : PySem.W.nsIn K o_ANSWERS "write below" = some (some (.ref o6_ANSWERS)))
    (dn7_ANSWERS : PySem.W.nsIn K o_ANSWERS "write above" = some (some (.ref o7_ANSWERS)))
    (dn8_ANSWERS : PySem.W.nsIn K o_ANSWERS "write free passed" = some (some (.ref o8_ANSWERS)))
    (dn9_ANSWERS : PySem.W.nsIn K o_ANSWERS "write own passed" = some (some (.ref o9_ANSWERS)))
    (dn10_ANSWERS : PySem.W.nsIn K o_ANSWERS "write late passed" = some (some (.ref o10_ANSWERS)))
    (dn11_ANSWERS : PySem.W.nsIn K o_ANSWERS "write under passed" = some (some (.ref o11_ANSWERS)))
    (dn12_ANSWERS : PySem.W.nsIn K o_ANSWERS "write below passed" = some (some (.ref o12_ANSWERS)))
    (dn13_ANSWERS : PySem.W.nsIn K o_ANSWERS "write above passed" = some (some (.ref o13_ANSWERS)))
    (gv_MOST_KEPT : PySem.W.nsIn K mainGlobals "MOST_KEPT" = some (some (.int 20 tk_MOST_KEPT)))
    (n_bool : PySem.W.nsIn K mainGlobals "bool" = some none)
    (n_dict : PySem.W.nsIn K mainGlobals "dict" = some none)
    (n_int : PySem.W.nsIn K mainGlobals "int" = some none)
    (n_isinstance : PySem.W.nsIn K mainGlobals "isinstance" = some none)
    (n_len : PySem.W.nsIn K mainGlobals "len" = some none)
    (n_range : PySem.W.nsIn K mainGlobals "range" = some none)
    (n_super : PySem.W.nsIn K mainGlobals "super" = some none)
    : ∃ T : Txt w K mg, T.f_law = fa := by
  refine ⟨{
    isg := ⟨z_hn, z_ht⟩,
    c_StampError := c_StampError,
    g_StampError := PySem.W.mg_of X G gc_StampError,
    k_StampError := kc_StampError,
    c_BadEntry := c_BadEntry,
    g_BadEntry := PySem.W.mg_of X G gc_BadEntry,
    k_BadEntry := kc_BadEntry,
    c_BadAnswer := c_BadAnswer,
    g_BadAnswer := PySem.W.mg_of X G gc_BadAnswer,
    k_BadAnswer := kc_BadAnswer,
    c_BadSetting := c_BadSetting,
    g_BadSetting := PySem.W.mg_of X G gc_BadSetting,
    k_BadSetting := kc_BadSetting,
    c_Book := c_Book,
    g_Book := PySem.W.mg_of X G gc_Book,
    k_Book := kc_Book,
    oex_StampError := ⟨⟨_, _, _, _, _, _, _, _, _, _, _, _, _, _, _, xl_StampError, rfl⟩, sa_StampError, xb_StampError, xt_StampError, kc_StampError⟩,
    excc_StampError := ⟨ga_StampError, gg_StampError, xb_StampError, hd_StampError, ha_StampError, z_hn, z_ht, hm_StampError⟩,
    xfc_StampError := ⟨ga_StampError, gg_StampError, xb_StampError, hd_StampError⟩,
    exm_StampError_StampError := PySem.W.exm_ref xb_StampError hd_StampError xt_StampError sb_StampError_StampError,
    kit_StampError_StampError := ko_StampError_StampError,
    exm_StampError_BadEntry := PySem.W.exm_ref xb_BadEntry hd_BadEntry xt_BadEntry sb_StampError_BadEntry,
    kit_StampError_BadEntry := ko_StampError_BadEntry,
    exm_StampError_BadAnswer := PySem.W.exm_ref xb_BadAnswer hd_BadAnswer xt_BadAnswer sb_StampError_BadAnswer,
    kit_StampError_BadAnswer := ko_StampError_BadAnswer,
    exm_StampError_BadSetting := PySem.W.exm_ref xb_BadSetting hd_BadSetting xt_BadSetting sb_StampError_BadSetting,
    kit_StampError_BadSetting := ko_StampError_BadSetting,
    kit_StampError_VE := kv_StampError,
    oex_BadEntry := ⟨⟨_, _, _, _, _, _, _, _, _, _, _, _, _, _, _, xl_BadEntry, rfl⟩, sa_BadEntry, xb_BadEntry, xt_BadEntry, kc_BadEntry⟩,
    excc_BadEntry := ⟨ga_BadEntry, gg_BadEntry, xb_BadEntry, hd_BadEntry, ha_BadEntry, z_hn, z_ht, hm_BadEntry⟩,
    xfc_BadEntry := ⟨ga_BadEntry, gg_BadEntry, xb_BadEntry, hd_BadEntry⟩,
    exm_BadEntry_StampError := PySem.W.exm_ref xb_StampError hd_StampError xt_StampError sb_BadEntry_StampError,
    kit_BadEntry_StampError := ko_BadEntry_StampError,
    exm_BadEntry_BadEntry := PySem.W.exm_ref xb_BadEntry hd_BadEntry xt_BadEntry sb_BadEntry_BadEntry,
    kit_BadEntry_BadEntry := ko_BadEntry_BadEntry,
    exm_BadEntry_BadAnswer := PySem.W.exm_ref xb_BadAnswer hd_BadAnswer xt_BadAnswer sb_BadEntry_BadAnswer,
    kit_BadEntry_BadAnswer := ko_BadEntry_BadAnswer,
    exm_BadEntry_BadSetting := PySem.W.exm_ref xb_BadSetting hd_BadSetting xt_BadSetting sb_BadEntry_BadSetting,
    kit_BadEntry_BadSetting := ko_BadEntry_BadSetting,
    kit_BadEntry_VE := kv_BadEntry,
    na_BadEntry_entry := na_BadEntry_entry,
    oex_BadAnswer := ⟨⟨_, _, _, _, _, _, _, _, _, _, _, _, _, _, _, xl_BadAnswer, rfl⟩, sa_BadAnswer, xb_BadAnswer, xt_BadAnswer, kc_BadAnswer⟩,
    excc_BadAnswer := ⟨ga_BadAnswer, gg_BadAnswer, xb_BadAnswer, hd_BadAnswer, ha_BadAnswer, z_hn, z_ht, hm_BadAnswer⟩,
    xfc_BadAnswer := ⟨ga_BadAnswer, gg_BadAnswer, xb_BadAnswer, hd_BadAnswer⟩,
    exm_BadAnswer_StampError := PySem.W.exm_ref xb_StampError hd_StampError xt_StampError sb_BadAnswer_StampError,
    kit_BadAnswer_StampError := ko_BadAnswer_StampError,
    exm_BadAnswer_BadEntry := PySem.W.exm_ref xb_BadEntry hd_BadEntry xt_BadEntry sb_BadAnswer_BadEntry,
    kit_BadAnswer_BadEntry := ko_BadAnswer_BadEntry,
    exm_BadAnswer_BadAnswer := PySem.W.exm_ref xb_BadAnswer hd_BadAnswer xt_BadAnswer sb_BadAnswer_BadAnswer,
    kit_BadAnswer_BadAnswer := ko_BadAnswer_BadAnswer,
    exm_BadAnswer_BadSetting := PySem.W.exm_ref xb_BadSetting hd_BadSetting xt_BadSetting sb_BadAnswer_BadSetting,
    kit_BadAnswer_BadSetting := ko_BadAnswer_BadSetting,
    kit_BadAnswer_VE := kv_BadAnswer,
    na_BadAnswer_answer := na_BadAnswer_answer,
    na_BadAnswer_entry := na_BadAnswer_entry,
    oex_BadSetting := ⟨⟨_, _, _, _, _, _, _, _, _, _, _, _, _, _, _, xl_BadSetting, rfl⟩, sa_BadSetting, xb_BadSetting, xt_BadSetting, kc_BadSetting⟩,
    excc_BadSetting := ⟨ga_BadSetting, gg_BadSetting, xb_BadSetting, hd_BadSetting, ha_BadSetting, z_hn, z_ht, hm_BadSetting⟩,
    xfc_BadSetting := ⟨ga_BadSetting, gg_BadSetting, xb_BadSetting, hd_BadSetting⟩,
    exm_BadSetting_StampError := PySem.W.exm_ref xb_StampError hd_StampError xt_StampError sb_BadSetting_StampError,
    kit_BadSetting_StampError := ko_BadSetting_StampError,
    exm_BadSetting_BadEntry := PySem.W.exm_ref xb_BadEntry hd_BadEntry xt_BadEntry sb_BadSetting_BadEntry,
    kit_BadSetting_BadEntry := ko_BadSetting_BadEntry,
    exm_BadSetting_BadAnswer := PySem.W.exm_ref xb_BadAnswer hd_BadAnswer xt_BadAnswer sb_BadSetting_BadAnswer,
    kit_BadSetting_BadAnswer := ko_BadSetting_BadAnswer,
    exm_BadSetting_BadSetting := PySem.W.exm_ref xb_BadSetting hd_BadSetting xt_BadSetting sb_BadSetting_BadSetting,
    kit_BadSetting_BadSetting := ko_BadSetting_BadSetting,
    kit_BadSetting_VE := kv_BadSetting,
    na_BadSetting_given := na_BadSetting_given,
    cl_Book := ⟨pg_Book, hd_Book, po_Book, sa_Book⟩,
    isi_Book := ⟨ha_Book, hm_Book⟩,
    kit_Book := ko_Book,
    na_Book__answers := na_Book__answers,
    na_Book__ends := na_Book__ends,
    na_Book__keep := na_Book__keep,
    f_BadEntry_init := f_BadEntry_init,
    d_BadEntry_init := PySem.W.fnX "__init__" "BadEntry.__init__" (defArgs s_BadEntry_init) (defBody s_BadEntry_init) (defScope s_BadEntry_init) [(("__class__" : Str), cc_BadEntry_init)] .none kV_BadEntry_init dc_BadEntry_init pm_BadEntry_init an_BadEntry_init (.ref cdr_BadEntry_init) ct_BadEntry_init,
    cc_BadEntry_init := cc_BadEntry_init,
    cdr_BadEntry_init := cdr_BadEntry_init,
    S_BadEntry_init := ⟨⟨⟨_, _, _, _, _, _, _, _, _, _, _, _, _, _, _, xl_BadEntry, rfl⟩, sa_BadEntry, xb_BadEntry, xt_BadEntry, kc_BadEntry⟩, su_BadEntry_init, ve_BadEntry_init, md_BadEntry_init, z_th, PySem.W.mg_none_of X G z_su, rfl, rfl, ⟨_, _, _, _, _, _, _, _, rfl, l_BadEntry_init⟩, ⟨_, _, _, _, _, _, cv_BadEntry_init, cw_BadEntry_init, cx_BadEntry_init⟩, c_BadEntry_init, ⟨_, _, _, cl_BadEntry_init⟩, tp_BadEntry_init⟩,
    i_BadEntry_init := a_BadEntry_init,
    t_BadEntry_init := ti_BadEntry_init,
    f_BadAnswer_init := f_BadAnswer_init,
    d_BadAnswer_init := PySem.W.fnX "__init__" "BadAnswer.__init__" (defArgs s_BadAnswer_init) (defBody s_BadAnswer_init) (defScope s_BadAnswer_init) [(("__class__" : Str), cc_BadAnswer_init)] .none kV_BadAnswer_init dc_BadAnswer_init pm_BadAnswer_init an_BadAnswer_init (.ref cdr_BadAnswer_init) ct_BadAnswer_init,
    cc_BadAnswer_init := cc_BadAnswer_init,
    cdr_BadAnswer_init := cdr_BadAnswer_init,
    S_BadAnswer_init := ⟨⟨⟨_, _, _, _, _, _, _, _, _, _, _, _, _, _, _, xl_BadAnswer, rfl⟩, sa_BadAnswer, xb_BadAnswer, xt_BadAnswer, kc_BadAnswer⟩, su_BadAnswer_init, ve_BadAnswer_init, md_BadAnswer_init, z_th, PySem.W.mg_none_of X G z_su, rfl, rfl, ⟨_, _, _, _, _, _, _, _, rfl, l_BadAnswer_init⟩, ⟨_, _, _, _, _, _, cv_BadAnswer_init, cw_BadAnswer_init, cx_BadAnswer_init⟩, c_BadAnswer_init, ⟨_, _, _, cl_BadAnswer_init⟩, tp_BadAnswer_init⟩,
    i_BadAnswer_init := a_BadAnswer_init,
    t_BadAnswer_init := ti_BadAnswer_init,
    f_BadSetting_init := f_BadSetting_init,
    d_BadSetting_init := PySem.W.fnX "__init__" "BadSetting.__init__" (defArgs s_BadSetting_init) (defBody s_BadSetting_init) (defScope s_BadSetting_init) [(("__class__" : Str), cc_BadSetting_init)] .none kV_BadSetting_init dc_BadSetting_init pm_BadSetting_init an_BadSetting_init (.ref cdr_BadSetting_init) ct_BadSetting_init,
    cc_BadSetting_init := cc_BadSetting_init,
    cdr_BadSetting_init := cdr_BadSetting_init,
    S_BadSetting_init := ⟨⟨⟨_, _, _, _, _, _, _, _, _, _, _, _, _, _, _, xl_BadSetting, rfl⟩, sa_BadSetting, xb_BadSetting, xt_BadSetting, kc_BadSetting⟩, su_BadSetting_init, ve_BadSetting_init, md_BadSetting_init, z_th, PySem.W.mg_none_of X G z_su, rfl, rfl, ⟨_, _, _, _, _, _, _, _, rfl, l_BadSetting_init⟩, ⟨_, _, _, _, _, _, cv_BadSetting_init, cw_BadSetting_init, cx_BadSetting_init⟩, c_BadSetting_init, ⟨_, _, _, cl_BadSetting_init⟩, tp_BadSetting_init⟩,
    i_BadSetting_init := a_BadSetting_init,
    t_BadSetting_init := ti_BadSetting_init,
    f_Book_init := f_Book_init,
    d_Book_init := PySem.W.fnOf "__init__" "Book.__init__" (defArgs s_Book_init) (defBody s_Book_init) (defScope s_Book_init) (.ref T_Book_init) (.ref KD_Book_init) dc_Book_init pm_Book_init an_Book_init cd_Book_init ct_Book_init,
    F_Book_init := ⟨⟨_, _, _, _, _, _, _, _, _, _, rfl, l_Book_init, c_Book_init, .inr ⟨by simp, _, _, [.none], _, rfl, T1_Book_init, rfl, .cons rfl (.nil)⟩, .inr ⟨_, rfl, fun q hq => by
      simp only [List.mem_cons, List.not_mem_nil, or_false] at hq
      rcases hq with rfl | rfl
      · exact ⟨_, kw0_Book_init, ⟨_, rfl⟩⟩
      · exact ⟨_, kw1_Book_init, ⟨_, rfl⟩⟩⟩⟩, k_Book_init⟩,
    m_Book_init := ⟨a_Book_init, fn_Book_init, k_Book_init⟩,
    mk_Book := ⟨mk_Book, a_Book_init, fn_Book_init, kc_Book⟩,
    f_Book_copy := f_Book_copy,
    d_Book_copy := PySem.W.fnOf "copy" "Book.copy" (defArgs s_Book_copy) (defBody s_Book_copy) (defScope s_Book_copy) .none kV_Book_copy dc_Book_copy pm_Book_copy an_Book_copy cd_Book_copy ct_Book_copy,
    F_Book_copy := fun_mk l_Book_copy c_Book_copy k_Book_copy,
    m_Book_copy := ⟨a_Book_copy, fn_Book_copy, k_Book_copy⟩,
    f_Book_getitem := f_Book_getitem,
    d_Book_getitem := PySem.W.fnOf "__getitem__" "Book.__getitem__" (defArgs s_Book_getitem) (defBody s_Book_getitem) (defScope s_Book_getitem) .none kV_Book_getitem dc_Book_getitem pm_Book_getitem an_Book_getitem cd_Book_getitem ct_Book_getitem,
    F_Book_getitem := fun_mk l_Book_getitem c_Book_getitem k_Book_getitem,
    m_Book_getitem := ⟨a_Book_getitem, fn_Book_getitem, k_Book_getitem⟩,
    nd_Book := nd_Book,
    fi_Book_getitem := fi_Book_getitem,
    f_Book_setitem := f_Book_setitem,
    d_Book_setitem := PySem.W.fnOf "__setitem__" "Book.__setitem__" (defArgs s_Book_setitem) (defBody s_Book_setitem) (defScope s_Book_setitem) .none kV_Book_setitem dc_Book_setitem pm_Book_setitem an_Book_setitem cd_Book_setitem ct_Book_setitem,
    F_Book_setitem := fun_mk l_Book_setitem c_Book_setitem k_Book_setitem,
    m_Book_setitem := ⟨a_Book_setitem, fn_Book_setitem, k_Book_setitem⟩,
    f_answers_at := f_answers_at,
    d_answers_at := PySem.W.fnOf "answers_at" "answers_at" (defArgs s_answers_at) (defBody s_answers_at) (defScope s_answers_at) .none kV_answers_at dc_answers_at pm_answers_at an_answers_at cd_answers_at ct_answers_at,
    F_answers_at := fun_mk l_answers_at c_answers_at k_answers_at,
    g_answers_at := PySem.W.mg_of X G a_answers_at,
    f_check_answer := f_check_answer,
    d_check_answer := PySem.W.fnOf "check_answer" "check_answer" (defArgs s_check_answer) (defBody s_check_answer) (defScope s_check_answer) .none kV_check_answer dc_check_answer pm_check_answer an_check_answer cd_check_answer ct_check_answer,
    F_check_answer := fun_mk l_check_answer c_check_answer k_check_answer,
    g_check_answer := PySem.W.mg_of X G a_check_answer,
    f_is_keep := f_is_keep,
    d_is_keep := PySem.W.fnOf "is_keep" "is_keep" (defArgs s_is_keep) (defBody s_is_keep) (defScope s_is_keep) .none kV_is_keep dc_is_keep pm_is_keep an_is_keep cd_is_keep ct_is_keep,
    F_is_keep := fun_mk l_is_keep c_is_keep k_is_keep,
    g_is_keep := PySem.W.mg_of X G a_is_keep,
    f_law_cell := f_law_cell,
    d_law_cell := PySem.W.fnOf "_law_cell" "_law_cell" (defArgs s_law_cell) (defBody s_law_cell) (defScope s_law_cell) .none kV_law_cell dc_law_cell pm_law_cell an_law_cell cd_law_cell ct_law_cell,
    F_law_cell := fun_mk l_law_cell c_law_cell k_law_cell,
    g_law_cell := PySem.W.mg_of X G a_law_cell,
    f_law_row := f_law_row,
    d_law_row := PySem.W.fnOf "_law_row" "_law_row" (defArgs s_law_row) (defBody s_law_row) (defScope s_law_row) .none kV_law_row dc_law_row pm_law_row an_law_row cd_law_row ct_law_row,
    F_law_row := fun_mk l_law_row c_law_row k_law_row,
    g_law_row := PySem.W.mg_of X G a_law_row,
    f_law_entries := f_law_entries,
    d_law_entries := PySem.W.fnOf "_law_entries" "_law_entries" (defArgs s_law_entries) (defBody s_law_entries) (defScope s_law_entries) .none kV_law_entries dc_law_entries pm_law_entries an_law_entries cd_law_entries ct_law_entries,
    F_law_entries := fun_mk l_law_entries c_law_entries k_law_entries,
    g_law_entries := PySem.W.mg_of X G a_law_entries,
    f_law_choices := f_law_choices,
    d_law_choices := PySem.W.fnOf "_law_choices" "_law_choices" (defArgs s_law_choices) (defBody s_law_choices) (defScope s_law_choices) .none kV_law_choices dc_law_choices pm_law_choices an_law_choices cd_law_choices ct_law_choices,
    F_law_choices := fun_mk l_law_choices c_law_choices k_law_choices,
    g_law_choices := PySem.W.mg_of X G a_law_choices,
    f_law_table := f_law_table,
    d_law_table := PySem.W.fnOf "_law_table" "_law_table" (defArgs s_law_table) (defBody s_law_table) (defScope s_law_table) .none kV_law_table dc_law_table pm_law_table an_law_table cd_law_table ct_law_table,
    F_law_table := fun_mk l_law_table c_law_table k_law_table,
    g_law_table := PySem.W.mg_of X G a_law_table,
    f_law_one := f_law_one,
    d_law_one := PySem.W.fnOf "_law_one" "_law_one" (defArgs s_law_one) (defBody s_law_one) (defScope s_law_one) .none kV_law_one dc_law_one pm_law_one an_law_one cd_law_one ct_law_one,
    F_law_one := fun_mk l_law_one c_law_one k_law_one,
    g_law_one := PySem.W.mg_of X G a_law_one,
    f_law_set := f_law_set,
    d_law_set := PySem.W.fnOf "_law_set" "_law_set" (defArgs s_law_set) (defBody s_law_set) (defScope s_law_set) .none kV_law_set dc_law_set pm_law_set an_law_set cd_law_set ct_law_set,
    F_law_set := fun_mk l_law_set c_law_set k_law_set,
    g_law_set := PySem.W.mg_of X G a_law_set,
    f_law_unknown := f_law_unknown,
    d_law_unknown := PySem.W.fnOf "_law_unknown" "_law_unknown" (defArgs s_law_unknown) (defBody s_law_unknown) (defScope s_law_unknown) .none kV_law_unknown dc_law_unknown pm_law_unknown an_law_unknown cd_law_unknown ct_law_unknown,
    F_law_unknown := fun_mk l_law_unknown c_law_unknown k_law_unknown,
    g_law_unknown := PySem.W.mg_of X G a_law_unknown,
    f_law := f_law,
    d_law := PySem.W.fnOf "law" "law" (defArgs s_law) (defBody s_law) (defScope s_law) .none kV_law dc_law pm_law an_law cd_law ct_law,
    F_law := fun_mk l_law c_law k_law,
    g_law := PySem.W.mg_of X G a_law,
    o_ENTRIES := o_ENTRIES,
    g_ENTRIES := PySem.W.mg_of X G gv_ENTRIES,
    q_ENTRIES := fun _ => .inr ⟨_, _, _, tl_ENTRIES, rfl, rfl, (show (14 : Nat) ≤ sizeLine by decide), (.cons ⟨_, rfl⟩ (.cons ⟨_, rfl⟩ (.cons ⟨_, rfl⟩ (.cons ⟨_, rfl⟩ (.cons ⟨_, rfl⟩ (.cons ⟨_, rfl⟩ (.cons ⟨_, rfl⟩ (.cons ⟨_, rfl⟩ (.cons ⟨_, rfl⟩ (.cons ⟨_, rfl⟩ (.cons ⟨_, rfl⟩ (.cons ⟨_, rfl⟩ (.cons ⟨_, rfl⟩ (.cons ⟨_, rfl⟩ .nil))))))))))))))⟩,
    o_ANSWERS := o_ANSWERS,
    g_ANSWERS := PySem.W.mg_of X G gv_ANSWERS,
    o0_ANSWERS := o0_ANSWERS,
    q0_ANSWERS := fun _ => .inr ⟨_, _, _, tl_0_ANSWERS, rfl, rfl, (show (3 : Nat) ≤ sizeLine by decide), (.cons ⟨_, rfl⟩ (.cons ⟨_, rfl⟩ (.cons ⟨_, rfl⟩ .nil)))⟩,
    o1_ANSWERS := o1_ANSWERS,
    q1_ANSWERS := fun _ => .inr ⟨_, _, _, tl_1_ANSWERS, rfl, rfl, (show (5 : Nat) ≤ sizeLine by decide), (.cons ⟨_, rfl⟩ (.cons ⟨_, rfl⟩ (.cons ⟨_, rfl⟩ (.cons ⟨_, rfl⟩ (.cons ⟨_, rfl⟩ .nil)))))⟩,
    o2_ANSWERS := o2_ANSWERS,
    q2_ANSWERS := fun _ => .inr ⟨_, _, _, tl_2_ANSWERS, rfl, rfl, (show (4 : Nat) ≤ sizeLine by decide), (.cons ⟨_, rfl⟩ (.cons ⟨_, rfl⟩ (.cons ⟨_, rfl⟩ (.cons ⟨_, rfl⟩ .nil))))⟩,
    o3_ANSWERS := o3_ANSWERS,
    q3_ANSWERS := fun _ => .inr ⟨_, _, _, tl_3_ANSWERS, rfl, rfl, (show (4 : Nat) ≤ sizeLine by decide), (.cons ⟨_, rfl⟩ (.cons ⟨_, rfl⟩ (.cons ⟨_, rfl⟩ (.cons ⟨_, rfl⟩ .nil))))⟩,
    o4_ANSWERS := o4_ANSWERS,
    q4_ANSWERS := fun _ => .inr ⟨_, _, _, tl_4_ANSWERS, rfl, rfl, (show (2 : Nat) ≤ sizeLine by decide), (.cons ⟨_, rfl⟩ (.cons ⟨_, rfl⟩ .nil))⟩,
    o5_ANSWERS := o5_ANSWERS,
    q5_ANSWERS := fun _ => .inr ⟨_, _, _, tl_5_ANSWERS, rfl, rfl, (show (4 : Nat) ≤ sizeLine by decide), (.cons ⟨_, rfl⟩ (.cons ⟨_, rfl⟩ (.cons ⟨_, rfl⟩ (.cons ⟨_, rfl⟩ .nil))))⟩,
    o6_ANSWERS := o6_ANSWERS,
    q6_ANSWERS := fun _ => .inr ⟨_, _, _, tl_6_ANSWERS, rfl, rfl, (show (4 : Nat) ≤ sizeLine by decide), (.cons ⟨_, rfl⟩ (.cons ⟨_, rfl⟩ (.cons ⟨_, rfl⟩ (.cons ⟨_, rfl⟩ .nil))))⟩,
    o7_ANSWERS := o7_ANSWERS,
    q7_ANSWERS := fun _ => .inr ⟨_, _, _, tl_7_ANSWERS, rfl, rfl, (show (4 : Nat) ≤ sizeLine by decide), (.cons ⟨_, rfl⟩ (.cons ⟨_, rfl⟩ (.cons ⟨_, rfl⟩ (.cons ⟨_, rfl⟩ .nil))))⟩,
    o8_ANSWERS := o8_ANSWERS,
    q8_ANSWERS := fun _ => .inr ⟨_, _, _, tl_8_ANSWERS, rfl, rfl, (show (2 : Nat) ≤ sizeLine by decide), (.cons ⟨_, rfl⟩ (.cons ⟨_, rfl⟩ .nil))⟩,
    o9_ANSWERS := o9_ANSWERS,
    q9_ANSWERS := fun _ => .inr ⟨_, _, _, tl_9_ANSWERS, rfl, rfl, (show (2 : Nat) ≤ sizeLine by decide), (.cons ⟨_, rfl⟩ (.cons ⟨_, rfl⟩ .nil))⟩,
    o10_ANSWERS := o10_ANSWERS,
    q10_ANSWERS := fun _ => .inr ⟨_, _, _, tl_10_ANSWERS, rfl, rfl, (show (2 : Nat) ≤ sizeLine by decide), (.cons ⟨_, rfl⟩ (.cons ⟨_, rfl⟩ .nil))⟩,
    o11_ANSWERS := o11_ANSWERS,
    q11_ANSWERS := fun _ => .inr ⟨_, _, _, tl_11_ANSWERS, rfl, rfl, (show (4 : Nat) ≤ sizeLine by decide), (.cons ⟨_, rfl⟩ (.cons ⟨_, rfl⟩ (.cons ⟨_, rfl⟩ (.cons ⟨_, rfl⟩ .nil))))⟩,
    o12_ANSWERS := o12_ANSWERS,
    q12_ANSWERS := fun _ => .inr ⟨_, _, _, tl_12_ANSWERS, rfl, rfl, (show (4 : Nat) ≤ sizeLine by decide), (.cons ⟨_, rfl⟩ (.cons ⟨_, rfl⟩ (.cons ⟨_, rfl⟩ (.cons ⟨_, rfl⟩ .nil))))⟩,
    o13_ANSWERS := o13_ANSWERS,
    q13_ANSWERS := fun _ => .inr ⟨_, _, _, tl_13_ANSWERS, rfl, rfl, (show (4 : Nat) ≤ sizeLine by decide), (.cons ⟨_, rfl⟩ (.cons ⟨_, rfl⟩ (.cons ⟨_, rfl⟩ (.cons ⟨_, rfl⟩ .nil))))⟩,
    es_ANSWERS := #[⟨h0_ANSWERS, .str "read late" tk0_ANSWERS, .ref o0_ANSWERS⟩, ⟨h1_ANSWERS, .str "read under" tk1_ANSWERS, .ref o1_ANSWERS⟩, ⟨h2_ANSWERS, .str "read below" tk2_ANSWERS, .ref o2_ANSWERS⟩, ⟨h3_ANSWERS, .str "read above" tk3_ANSWERS, .ref o3_ANSWERS⟩, ⟨h4_ANSWERS, .str "write late" tk4_ANSWERS, .ref o4_ANSWERS⟩, ⟨h5_ANSWERS, .str "write under" tk5_ANSWERS, .ref o5_ANSWERS⟩, ⟨h6_ANSWERS, .str "write below" tk6_ANSWERS, .ref o6_ANSWERS⟩, ⟨h7_ANSWERS, .str "write above" tk7_ANSWERS, .ref o7_ANSWERS⟩, ⟨h8_ANSWERS, .str "write free passed" tk8_ANSWERS, .ref o8_ANSWERS⟩, ⟨h9_ANSWERS, .str "write own passed" tk9_ANSWERS, .ref o9_ANSWERS⟩, ⟨h10_ANSWERS, .str "write late passed" tk10_ANSWERS, .ref o10_ANSWERS⟩, ⟨h11_ANSWERS, .str "write under passed" tk11_ANSWERS, .ref o11_ANSWERS⟩, ⟨h12_ANSWERS, .str "write below passed" tk12_ANSWERS, .ref o12_ANSWERS⟩, ⟨h13_ANSWERS, .str "write above passed" tk13_ANSWERS, .ref o13_ANSWERS⟩],
    ep_ANSWERS := ep_ANSWERS,
    kd_ANSWERS := ⟨dl_ANSWERS, dk_ANSWERS, ds_ANSWERS⟩,
    n0_ANSWERS := dn0_ANSWERS,
    n1_ANSWERS := dn1_ANSWERS,
    n2_ANSWERS := dn2_ANSWERS,
    n3_ANSWERS := dn3_ANSWERS,
    n4_ANSWERS := dn4_ANSWERS,
    n5_ANSWERS := dn5_ANSWERS,
    n6_ANSWERS := dn6_ANSWERS,
    n7_ANSWERS := dn7_ANSWERS,
    n8_ANSWERS := dn8_ANSWERS,
    n9_ANSWERS := dn9_ANSWERS,
    n10_ANSWERS := dn10_ANSWERS,
    n11_ANSWERS := dn11_ANSWERS,
    n12_ANSWERS := dn12_ANSWERS,
    n13_ANSWERS := dn13_ANSWERS,
    g_MOST_KEPT := ⟨_, PySem.W.mg_of X G gv_MOST_KEPT⟩,
    n_bool := PySem.W.mg_none_of X G n_bool,
    n_dict := PySem.W.mg_none_of X G n_dict,
    n_int := PySem.W.mg_none_of X G n_int,
    n_isinstance := PySem.W.mg_none_of X G n_isinstance,
    n_len := PySem.W.mg_none_of X G n_len,
    n_range := PySem.W.mg_none_of X G n_range,
    n_super := PySem.W.mg_none_of X G n_super
  }, ?_⟩
  exact (Value.ref.inj (Option.some.inj (hfa.symm.trans (PySem.W.mg_of X G a_law)))).symm
end K06
namespace K06
open PySem L2
abbrev PP : Program := PySem.Challenge.rw_stamprules_k06_cells_of_a_book.prog
end K06

namespace K06
open PySem L2 SI CM BK
section
variable {w : World} {K : PySem.W.Frag} {mg : Str → Option Value} {base : Heap} (T : Txt w K mg)
/-- an error's __init__ with one field -/
def spE1 (C : Addr) (f : Str) : Sp := fun vs H Q _ => ∃ a v, vs = [.ref a, v] ∧ H a = some (exo a C none) ∧ ∀ dx, H dx = none → dx ≠ a → Q .non (upd (upd H dx (exd dx [(f, v)])) a (exo a C (some dx)))
/-- .. with two -/
def spE2 (C : Addr) (f g : Str) : Sp := fun vs H Q _ => ∃ a v u, vs = [.ref a, v, u] ∧ H a = some (exo a C none) ∧ ∀ dx, H dx = none → dx ≠ a → Q .non (upd (upd H dx (exd dx [(g, u), (f, v)])) a (exo a C (some dx)))
theorem ok_BadEntry : FnOk PP w K mg base CX0 1 T.f_BadEntry_init T.d_BadEntry_init ["self", "entry"] (spE1 T.c_BadEntry "entry") := by
  refine ok_sup (N := ["self", "entry", "__class__"]) T.S_BadEntry_init sc_BadEntry_init rfl (show (defScope s_BadEntry_init).names.lookup ("super" : Str) = some .globalImplicit by decide +kernel) rfl rfl (fun vs H Q E h => ?_) (fun A outer s H vs Q E hr h => ?_)
  · obtain ⟨a, v, rfl, _⟩ := h
    rfl
  · obtain ⟨a, v, rfl, ha, k⟩ := h
    refine ⟨a, _, _, _, pa_cons pe_str pa_nil, pss_one (ps_ost (pv 0) (pv 1)), rfl, fun M B u Q' E' s' z => PySem.Calls.evalArgs_plain z, rfl, rfl, rfl, ha, by show 1 ≤ 1000; decide, ha, ?_⟩
    exact ⟨_, rfl, _, rfl, _, _, rfl, T.oex_BadEntry, T.na_BadEntry_entry, .inl ⟨ha, fun dx n ne => k dx n ne⟩⟩
theorem ok_BadAnswer : FnOk PP w K mg base CX0 1 T.f_BadAnswer_init T.d_BadAnswer_init ["self", "entry", "answer"] (spE2 T.c_BadAnswer "entry" "answer") := by
  refine ok_sup (N := ["self", "entry", "answer", "__class__"]) T.S_BadAnswer_init sc_BadAnswer_init rfl (show (defScope s_BadAnswer_init).names.lookup ("super" : Str) = some .globalImplicit by decide +kernel) rfl rfl (fun vs H Q E h => ?_) (fun A outer s H vs Q E hr h => ?_)
  · obtain ⟨a, v, u, rfl, _⟩ := h
    rfl
  · obtain ⟨a, v, u, rfl, ha, k⟩ := h
    refine ⟨a, _, _, _, pa_cons pe_str pa_nil, pss_cons (ps_ost (pv 0) (pv 1)) (pss_one (ps_ost (pv 0) (pv 2))), rfl, fun M B u Q' E' s' z => PySem.Calls.evalArgs_plain z, rfl, rfl, rfl, ha, by show 1 ≤ 1000; decide, ha, ?_⟩
    refine ⟨_, rfl, _, rfl, _, _, rfl, T.oex_BadAnswer, T.na_BadAnswer_entry, .inl ⟨ha, fun dx n ne => ?_⟩⟩
    refine ⟨_, rfl, _, rfl, _, _, rfl, T.oex_BadAnswer, T.na_BadAnswer_answer, .inr ⟨dx, _, upd_same, by rw [upd_ne ne, upd_same], Nat.le_of_ble_eq_true rfl, ?_⟩⟩
    have z := k dx n ne
    rw [← upd_swap (o1 := exd dx [("entry", v)]) ne] at z
    exact z
/-- what raise of an error with one field asks, behind its arguments -/
theorem rz1 {C : Addr} {H : Hp} {v : V} {f : Str} {E : XK} (kF : ∀ d, H d = none → E (.ref C) (some d) (upd H d (.xd [(f, v)]))) :
    (1 : Nat) ≤ 1000 ∧ ∀ a, H a = none → spE1 C f ([V.ref a, v] ++ []) (upd H a (exo a C none)) (fun x H1 => x = .non ∧ ∃ d fs, H1 a = some (exo a C (some d)) ∧ H1 d = some (exd d fs) ∧ H d = none ∧ E (.ref C) (some d) (upd (del H1 a) d (.xd fs))) E0 := by
  refine ⟨by decide, fun a ha => ⟨a, v, rfl, upd_same, fun d hd hne => ⟨rfl, d, [(f, v)], upd_same, ?_, ?_, ?_⟩⟩⟩
  · rw [upd_ne hne, upd_same]
  · rw [upd_ne hne] at hd
    exact hd
  · rw [upd_ne hne] at hd
    have z := kF d hd
    rw [raise_heap ha]
    exact z
theorem rz2 {C : Addr} {H : Hp} {v u : V} {f g : Str} {E : XK} (kF : ∀ d, H d = none → E (.ref C) (some d) (upd H d (.xd [(g, u), (f, v)]))) :
    (2 : Nat) ≤ 1000 ∧ ∀ a, H a = none → spE2 C f g ([V.ref a, v, u] ++ []) (upd H a (exo a C none)) (fun x H1 => x = .non ∧ ∃ d fs, H1 a = some (exo a C (some d)) ∧ H1 d = some (exd d fs) ∧ H d = none ∧ E (.ref C) (some d) (upd (del H1 a) d (.xd fs))) E0 := by
  refine ⟨by decide, fun a ha => ⟨a, v, u, rfl, upd_same, fun d hd hne => ⟨rfl, d, [(g, u), (f, v)], upd_same, ?_, ?_, ?_⟩⟩⟩
  · rw [upd_ne hne, upd_same]
  · rw [upd_ne hne] at hd
    exact hd
  · rw [upd_ne hne] at hd
    have z := kF d hd
    rw [raise_heap ha]
    exact z
/-- the name is an entry -/
def isEnt (v : V) : Prop := ∃ e, v = .str e ∧ e ∈ ENT
def spAns (K : PySem.W.Frag) (C : Addr) : Sp := fun vs H Q E => ∃ v, vs = [v] ∧ flatV v = true ∧
  (∀ e, v = .str e → e ∈ ENT → ∀ p, (∀ H', SqT K H' p ((chs e).map V.str)) → Q (.ref p) H) ∧ (¬ isEnt v → ∀ d, H d = none → E (.ref C) (some d) (upd H d (.xd [(("entry" : Str), v)])))
theorem ans_at : ∀ e ∈ ENT, ∃ p, PySem.W.nsIn K T.o_ANSWERS e = some (some (.ref p)) ∧ ∀ H', SqT K H' p ((chs e).map V.str) := by
  intro e he
  simp only [ENT, List.mem_cons, List.not_mem_nil, or_false] at he
  rcases he with rfl | rfl | rfl | rfl | rfl | rfl | rfl | rfl | rfl | rfl | rfl | rfl | rfl | rfl
  · exact ⟨_, T.n0_ANSWERS, fun H' => by rw [show (chs "read late").map V.str = [.str "last", .str "old", .str "abort"] by decide +kernel]; exact T.q0_ANSWERS H'⟩
  · exact ⟨_, T.n1_ANSWERS, fun H' => by rw [show (chs "read under").map V.str = [.str "last", .str "old", .str "open", .str "wait", .str "abort"] by decide +kernel]; exact T.q1_ANSWERS H'⟩
  · exact ⟨_, T.n2_ANSWERS, fun H' => by rw [show (chs "read below").map V.str = [.str "last", .str "open", .str "wait", .str "abort"] by decide +kernel]; exact T.q2_ANSWERS H'⟩
  · exact ⟨_, T.n3_ANSWERS, fun H' => by rw [show (chs "read above").map V.str = [.str "last", .str "open", .str "wait", .str "abort"] by decide +kernel]; exact T.q3_ANSWERS H'⟩
  · exact ⟨_, T.n4_ANSWERS, fun H' => by rw [show (chs "write late").map V.str = [.str "skip", .str "abort"] by decide +kernel]; exact T.q4_ANSWERS H'⟩
  · exact ⟨_, T.n5_ANSWERS, fun H' => by rw [show (chs "write under").map V.str = [.str "skip", .str "wait", .str "wound", .str "abort"] by decide +kernel]; exact T.q5_ANSWERS H'⟩
  · exact ⟨_, T.n6_ANSWERS, fun H' => by rw [show (chs "write below").map V.str = [.str "skip", .str "wait", .str "wound", .str "abort"] by decide +kernel]; exact T.q6_ANSWERS H'⟩
  · exact ⟨_, T.n7_ANSWERS, fun H' => by rw [show (chs "write above").map V.str = [.str "skip", .str "wait", .str "wound", .str "abort"] by decide +kernel]; exact T.q7_ANSWERS H'⟩
  · exact ⟨_, T.n8_ANSWERS, fun H' => by rw [show (chs "write free passed").map V.str = [.str "put", .str "abort"] by decide +kernel]; exact T.q8_ANSWERS H'⟩
  · exact ⟨_, T.n9_ANSWERS, fun H' => by rw [show (chs "write own passed").map V.str = [.str "put", .str "abort"] by decide +kernel]; exact T.q9_ANSWERS H'⟩
  · exact ⟨_, T.n10_ANSWERS, fun H' => by rw [show (chs "write late passed").map V.str = [.str "skip", .str "abort"] by decide +kernel]; exact T.q10_ANSWERS H'⟩
  · exact ⟨_, T.n11_ANSWERS, fun H' => by rw [show (chs "write under passed").map V.str = [.str "skip", .str "wait", .str "wound", .str "abort"] by decide +kernel]; exact T.q11_ANSWERS H'⟩
  · exact ⟨_, T.n12_ANSWERS, fun H' => by rw [show (chs "write below passed").map V.str = [.str "skip", .str "wait", .str "wound", .str "abort"] by decide +kernel]; exact T.q12_ANSWERS H'⟩
  · exact ⟨_, T.n13_ANSWERS, fun H' => by rw [show (chs "write above passed").map V.str = [.str "skip", .str "wait", .str "wound", .str "abort"] by decide +kernel]; exact T.q13_ANSWERS H'⟩
theorem ok_answers_at : FnOk PP w K mg base (L2.CX PP w) 4 T.f_answers_at T.d_answers_at ["entry"] (spAns K T.c_BadEntry) := by
  refine T.F_answers_at.okX sc_answers_at (fun vs H Q E h => ?_) (fun cdv A outer s H vs Q E hr h => ?_)
  · obtain ⟨v, rfl, _⟩ := h
    rfl
  · obtain ⟨v, rfl, fv, kT, kF⟩ := h
    refine ⟨_, pss_cons (ps_if (pt_cmpR op_notIn_seq (pv 0) (pe_glob (v := .ref T.o_ENTRIES) (by rfl) T.g_ENTRIES rfl) rfl)
 (pss_one (ps_raise rfl (takes_of rfl rfl rfl rfl) (pmk_oex T.oex_BadEntry T.i_BadEntry_init T.t_BadEntry_init (ok_BadEntry T) (hr.mono (by decide)) (b_BadEntry_init T) .nil pass0 (by rfl) T.g_BadEntry (pa_cons (pv 0) pa_nil))))
 pss_nil)
 (pss_one (ps_ret (pe_ix (ix_kd T.kd_ANSWERS) (pe_glob (v := .ref T.o_ANSWERS) (by rfl) T.g_ANSWERS rfl) (pv 0) (fun _ _ => rfl)))), ?_⟩
    refine ⟨_, rfl, T.o_ENTRIES, ENT.map V.str, rfl, .inr (T.q_ENTRIES H), fv, flat_strs _, _, rfl, ?_⟩
    by_cases hE : isEnt v
    · obtain ⟨e, rfl, he⟩ := hE
      obtain ⟨p, hp, hq⟩ := ans_at T e he
      rw [inV_str, decide_eq_true he]
      exact iteF ⟨_, rfl, e, _, .ref p, rfl, rfl, hp, rfl, kT e rfl he p hq⟩
    · rw [inV_not fun e h1 h2 => hE ⟨e, h1, h2⟩]
      exact iteT ⟨_, rfl, rz1 (kF hE)⟩
end
end K06

namespace K06
open PySem L2 SI CM BK
section
variable {w : World} {K : PySem.W.Frag} {mg : Str → Option Value} {base : Heap} (T : Txt w K mg)
/-- the answer may stand at the entry -/
def isAns (e : Str) (v : V) : Prop := ∃ a, v = .str a ∧ a ∈ chs e
def spChk (B C : Addr) : Sp := fun vs H Q E => ∃ v u, vs = [v, u] ∧ flatV v = true ∧ flatV u = true ∧
  (∀ e, v = .str e → e ∈ ENT → isAns e u → Q .non H) ∧ (¬ isEnt v → ∀ d, H d = none → E (.ref B) (some d) (upd H d (.xd [(("entry" : Str), v)]))) ∧
  (∀ e, v = .str e → e ∈ ENT → ¬ isAns e u → ∀ d, H d = none → E (.ref C) (some d) (upd H d (.xd [(("answer" : Str), u), (("entry" : Str), v)])))
theorem ok_check_answer : FnOk PP w K mg base (L2.CX PP w) 5 T.f_check_answer T.d_check_answer ["entry", "answer"] (spChk T.c_BadEntry T.c_BadAnswer) := by
  refine T.F_check_answer.okX sc_check_answer (fun vs H Q E h => ?_) (fun cdv A outer s H vs Q E hr h => ?_)
  · obtain ⟨v, u, rfl, _⟩ := h
    rfl
  · obtain ⟨v, u, rfl, fv, fu, kT, kF, kG⟩ := h
    refine ⟨_, pss_one (ps_if (pt_cmpR op_notIn_seq (pv 1) (pe_call (ok_answers_at T) (hr.mono (by decide)) (by rfl) T.g_answers_at T.F_answers_at.kp (b_answers_at T) .nil (passes_call (takes_of rfl rfl rfl rfl) fun _ _ _ _ h => h) (pa_cons (pv 0) pa_nil)) rfl)
 (pss_one (ps_raise rfl (takes_of rfl rfl rfl rfl) (pmk_oex T.oex_BadAnswer T.i_BadAnswer_init T.t_BadAnswer_init (ok_BadAnswer T) (hr.mono (by decide)) (b_BadAnswer_init T) .nil pass0 (by rfl) T.g_BadAnswer (pa_cons (pv 0) (pa_cons (pv 1) pa_nil)))))
 pss_nil), ?_⟩
    refine ⟨_, rfl, _, rfl, v, rfl, fv, fun e he hE p hp => ?_, kF⟩
    subst he
    refine ⟨p, (chs e).map V.str, rfl, .inr (hp H), fu, flat_strs _, _, rfl, ?_⟩
    by_cases hA : isAns e u
    · obtain ⟨a, rfl, ha⟩ := hA
      rw [inV_str, decide_eq_true ha]
      exact iteF (kT e rfl hE ⟨a, rfl, ha⟩)
    · rw [inV_not fun a h1 h2 => hA ⟨a, h1, h2⟩]
      exact iteT ⟨_, rfl, _, rfl, rz2 (kG e rfl hE hA)⟩
/-- a number of kept versions -/
def keepV : V → Bool
  | .int n => decide (1 ≤ n) && decide (n ≤ 20)
  | _ => false
def spKeep : Sp := fun vs H Q _ => ∃ v, vs = [v] ∧ flatV v = true ∧ Q (.bl (keepV v)) H
theorem ok_is_keep : FnOk PP w K mg base CX0 1 T.f_is_keep T.d_is_keep ["keep"] spKeep := by
  refine T.F_is_keep.ok sc_is_keep (fun vs H Q E h => ?_) (fun cdv A outer s H vs Q E hr h => ?_)
  · obtain ⟨v, rfl, _⟩ := h
    rfl
  · obtain ⟨v, rfl, fv, k⟩ := h
    obtain ⟨t0, hG⟩ := T.g_MOST_KEPT
    refine ⟨_, pss_cons (ps_if (PW.pt (pw_or (pt_val (pe_callB call_isi (by rfl) T.n_isinstance (by decide +kernel) (pa_cons (pv 0) (pa_cons (pe_bltn (v := .ty "bool") (by rfl) T.n_bool (by decide +kernel) rfl) pa_nil)))) (pw_or1 (pt_not (pt_val (pe_callB call_isi (by rfl) T.n_isinstance (by decide +kernel) (pa_cons (pv 0) (pa_cons (pe_bltn (v := .ty "int") (by rfl) T.n_int (by decide +kernel) rfl) pa_nil))))))))
 (pss_one (ps_ret pe_bl))
 pss_nil)
 (pss_one (ps_ret (pe_chain op_le op_le pe_int (pv 0) (pe_glob (v := .int 20) (by rfl) hG ⟨_, rfl⟩)))), ?_⟩
    cases v with
    | int n =>
      refine ⟨_, rfl, _, _, _, _, false, rfl, ClsV.ty _, .base (.int _), kit_ty (by decide +kernel), _, rfl, ?_⟩
      refine iteF ⟨_, rfl, _, _, _, _, true, rfl, ClsV.ty _, .base (.int _), kit_ty (by decide +kernel), _, rfl, ?_⟩
      refine iteF ?_
      refine ⟨_, rfl, _, _, rfl, rfl, _, rfl, ?_⟩
      have kk : keepV (.int n) = (decide (1 ≤ n) && decide (n ≤ 20)) := rfl
      rw [kk] at k
      by_cases h : (1 : Int) ≤ n
      · rw [decide_eq_true h] at k ⊢
        exact iteT ⟨_, _, rfl, rfl, k⟩
      · rw [decide_eq_false h] at k ⊢
        exact iteF k
    | bl b =>
      refine ⟨_, rfl, _, _, _, _, true, rfl, ClsV.ty _, .base (.bl _), kit_ty (by decide +kernel), _, rfl, ?_⟩
      exact iteT k
    | str z =>
      refine ⟨_, rfl, _, _, _, _, false, rfl, ClsV.ty _, .base (.str _), kit_ty (by decide +kernel), _, rfl, ?_⟩
      refine iteF ⟨_, rfl, _, _, _, _, false, rfl, ClsV.ty _, .base (.str _), kit_ty (by decide +kernel), _, rfl, ?_⟩
      exact iteT k
    | non =>
      refine ⟨_, rfl, _, _, _, _, false, rfl, ClsV.ty _, .base .non, kit_ty (by decide +kernel), _, rfl, ?_⟩
      refine iteF ⟨_, rfl, _, _, _, _, false, rfl, ClsV.ty _, .base .non, kit_ty (by decide +kernel), _, rfl, ?_⟩
      exact iteT k
    | _ => cases fv
end
end K06

namespace K06
open PySem L2 SI CM BK OWN
section
variable {w : World} {K : PySem.W.Frag} {mg : Str → Option Value} {base : Heap} (T : Txt w K mg)
theorem ok_BadSetting : FnOk PP w K mg base CX0 1 T.f_BadSetting_init T.d_BadSetting_init ["self", "given"] (spE1 T.c_BadSetting "given") := by
  refine ok_sup (N := ["self", "given", "__class__"]) T.S_BadSetting_init sc_BadSetting_init rfl (show (defScope s_BadSetting_init).names.lookup ("super" : Str) = some .globalImplicit by decide +kernel) rfl rfl (fun vs H Q E h => ?_) (fun A outer s H vs Q E hr h => ?_)
  · obtain ⟨a, v, rfl, _⟩ := h
    rfl
  · obtain ⟨a, v, rfl, ha, k⟩ := h
    refine ⟨a, _, _, _, pa_cons pe_str pa_nil, pss_one (ps_ost (pv 0) (pv 1)), rfl, fun M B u Q' E' s' z => PySem.Calls.evalArgs_plain z, rfl, rfl, rfl, ha, by show 1 ≤ 1000; decide, ha, ?_⟩
    exact ⟨_, rfl, _, rfl, _, _, rfl, T.oex_BadSetting, T.na_BadSetting_given, .inl ⟨ha, fun dx n ne => k dx n ne⟩⟩
abbrev NAE : List Str := ["now", "after"]
/-- a way to end -/
def isEnds (v : V) : Prop := v = .str "now" ∨ v = .str "after"
/-- nothing given, or a dict of these pairs -/
def Giv (H : Hp) (g : V) (gv : List (Str × V)) : Prop := (g = .non ∧ gv = []) ∨ ∃ a, g = .ref a ∧ H a = some (.dK (prs gv))
structure Bad (H : Hp) (p : Addr) (g : V) (gv : List (Str × V)) (H' : Hp) : Prop where
  but : ∀ b o, b ≠ p → g ≠ .ref b → H b = some o → H' b = some o
  giv : ∀ a, g = .ref a → ∃ o, H' a = some (.frz o (.dK (prs gv)))
structure InitP (C S B A : Addr) (p dx : Addr) (g : V) (gv : List (Str × V)) (en ke : V) (H : Hp) (Q : VK) (E : XK) : Prop where
  ok : ∀ e k, en = .str e → isEnds en → ke = .int k → keepV ke = true → (∀ q ∈ gv, okPair q = true) → ∀ H' d, But p H H' → H d = none → Bk C H' p dx d (fill gv fun _ => "abort") e k → Q .non H'
  bE : ¬ isEnds en → ∀ H' x, Same H H' → H x = none → H' x = some (.xd [(("given" : Str), en)]) → E (.ref S) (some x) H'
  bK : isEnds en → keepV ke = false → ∀ H' x, Same H H' → H x = none → H' x = some (.xd [(("given" : Str), ke)]) → E (.ref S) (some x) H'
  bB : isEnds en → keepV ke = true → ∀ pre q post, gv = pre ++ q :: post → (∀ z ∈ pre, okPair z = true) → q.1 ∉ ENT → ∀ H' x, Bad H p g gv H' → H x = none → H' x = some (.xd [(("entry" : Str), .str q.1)]) → E (.ref B) (some x) H'
  bA : isEnds en → keepV ke = true → ∀ pre q post, gv = pre ++ q :: post → (∀ z ∈ pre, okPair z = true) → q.1 ∈ ENT → isAnsB q.1 q.2 = false → ∀ H' x, Bad H p g gv H' → H x = none → H' x = some (.xd [(("answer" : Str), q.2), (("entry" : Str), .str q.1)]) → E (.ref A) (some x) H'
def spInit (C S B A : Addr) : Sp := fun vs H Q E => ∃ p dx g gv en ke, vs = [.ref p, g, en, ke] ∧ H p = some (.ins C dx []) ∧ flatV en = true ∧ flatV ke = true ∧ Giv H g gv ∧ (∀ q ∈ gv, flatV q.2 = true) ∧ InitP C S B A p dx g gv en ke H Q E
theorem ok_Book_init : FnOk PP w K mg base (L2.CX PP w) 6 T.f_Book_init T.d_Book_init ["self", "answers", "ends", "keep"] (spInit T.c_Book T.c_BadSetting T.c_BadEntry T.c_BadAnswer) := by
  refine T.F_Book_init.ok (CX := L2.CX PP w) sc_Book_init (fun vs H Q E h => ?_) (fun cdv A outer s H vs Q E hr h => ?_)
  · obtain ⟨p, dx, g, gv, en, ke, rfl, _⟩ := h
    rfl
  · obtain ⟨p, dx, g, gv, en, ke, rfl, hp, fe, fk, hg, hf, P⟩ := h
    refine ⟨_, pss_cons (ps_if (pt_cmpR op_notIn_seq (pv 2) (pe_tup (pa_cons pe_str (pa_cons pe_str pa_nil))) rfl)
 (pss_one (ps_raise rfl (takes_of rfl rfl rfl rfl) (pmk_oex T.oex_BadSetting T.i_BadSetting_init T.t_BadSetting_init (ok_BadSetting T) (hr.mono (by decide)) (b_BadSetting_init T) .nil pass0 (by rfl) T.g_BadSetting (pa_cons (pv 2) pa_nil))))
 pss_nil)
 (pss_cons (ps_if (pt_not (pt_val (pe_call (ok_is_keep T) (hr.mono (by decide)) (by rfl) T.g_is_keep T.F_is_keep.kp (b_is_keep T) .nil pass0 (pa_cons (pv 3) pa_nil))))
 (pss_one (ps_raise rfl (takes_of rfl rfl rfl rfl) (pmk_oex T.oex_BadSetting T.i_BadSetting_init T.t_BadSetting_init (ok_BadSetting T) (hr.mono (by decide)) (b_BadSetting_init T) .nil pass0 (by rfl) T.g_BadSetting (pa_cons (pv 3) pa_nil))))
 pss_nil)
 (pss_cons (ps_fld (pv 0) (pv 2) rfl)
 (C8.pss_cut (ps_fld (pv 0) (pv 3) rfl)
 (C8.pss_cut (ps_fld (pv 0) (pe_dc (own := [("entry", 4)]) (g := gName 4) (tt := tYes) rfl sc_Book_init.nd (pi_tup (pe_glob (v := .ref T.o_ENTRIES) (by rfl) T.g_ENTRIES rfl)) (blkOk_by (N := ["self", "answers", "ends", "keep", "entry", "given", "answer"]) (sc := defScope s_Book_init) (by decide +kernel)) (fun _ _ _ _ _ => pg_name (i := 4) sc_Book_init.nd rfl (Or.inl rfl)) (fun _ _ _ _ _ => pts_nil) (fun _ _ _ _ _ => pv 4) (fun _ _ _ _ _ => pe_str)) rfl)
 (C8.pss_cut (ps_set (i := 5) sc_Book_init.nd rfl (.inl rfl) (pe_ifExp (pt_cmpR op_isN (pv 1) pe_non (nomark _)) pe_dnewK (pv 1)))
 (pss_one (ps_lock (ps_for (passes_of rfl) rfl (pi_items (pv 5)) (pg_tup rfl (pgs_cons (pg_name (i := 4) sc_Book_init.nd rfl (.inl rfl)) (pgs_cons (pg_name (i := 6) sc_Book_init.nd rfl (.inl rfl)) pgs_nil)))
 (pss_cons (ps_expr (pe_call (ok_check_answer T) (hr.mono (by decide)) (by rfl) T.g_check_answer T.F_check_answer.kp (b_check_answer T) .nil (passes_call (takes_of rfl rfl rfl rfl) fun _ _ _ _ h => h) (pa_cons (pv 4) (pa_cons (pv 6) pa_nil))))
 (pss_one (ps_dput (hu_of hr) (pe_fld (pv 0) rfl) (pv 4) (pv 6) rfl))))))))))), ?_⟩
    have two : 2 ≤ sizeLine := by decide
    refine ⟨_, rfl, two, fun t nt => ⟨t, NAE.map V.str, rfl, .inr (SqT.of upd_same), fe, flat_strs _, _, rfl, ?_⟩⟩
    have s0 : Same H (upd H t (.tup (NAE.map V.str))) := same_new (Same.refl H) nt
    have hE : inV en (NAE.map V.str) = true ↔ isEnds en := by
      constructor
      · intro z
        cases en with
        | str e =>
          rw [inV_str] at z
          have z := of_decide_eq_true z
          simp only [List.mem_cons, List.not_mem_nil, or_false] at z
          rcases z with rfl | rfl
          · exact .inl rfl
          · exact .inr rfl
        | _ => exact absurd z (by rw [inV_not (by intro e he; cases he)]; exact Bool.false_ne_true)
      · rintro (rfl | rfl) <;> decide +kernel
    by_cases hI : isEnds en
    case neg =>
      have z : inV en (NAE.map V.str) = false := by
        cases q : inV en (NAE.map V.str) with
        | false => rfl
        | true => exact absurd (hE.mp q) hI
      rw [z]
      exact iteT ⟨_, rfl, rz1 fun d hd => P.bE hI _ d (same_new s0 hd) (s0.free hd) upd_same⟩
    rw [hE.mpr hI]
    refine iteF ⟨_, rfl, ke, rfl, fk, _, rfl, ?_⟩
    cases hk : keepV ke with
    | false => exact iteT ⟨_, rfl, rz1 fun d hd => P.bK hI hk _ d (same_new s0 hd) (s0.free hd) upd_same⟩
    | true =>
    refine iteF ?_
    obtain ⟨e, rfl⟩ : ∃ e, en = .str e := by rcases hI with rfl | rfl <;> exact ⟨_, rfl⟩
    obtain ⟨k, rfl⟩ : ∃ k, ke = .int k := by
      cases ke with
      | int k => exact ⟨k, rfl⟩
      | _ => cases hk
    have hp0 := s0 _ _ hp
    refine ⟨_, rfl, _, rfl, p, T.c_Book, dx, _, rfl, hp0, T.cl_Book, T.na_Book__ends, by show 0 < 1000; decide, ?_⟩
    refine ⟨fun σ H1 => σ = [some (.ref p), some g, some (.str e), some (.int k), none, none, none] ∧ But p H H1 ∧ H1 p = some (.ins T.c_Book dx [(("_ends" : Str), .str e), (("_keep" : Str), .int k)]), ?_, ?_⟩
    · exact ⟨_, rfl, _, rfl, p, T.c_Book, dx, _, rfl, upd_same, T.cl_Book, T.na_Book__keep, by show 1 < 1000; decide, rfl, fun b o' hb z => by rw [upd_ne hb, upd_ne hb]; exact s0 b o' z, upd_same⟩
    rintro σ H1 ⟨rfl, b1, hp1⟩
    have f1 : ∀ {q : Addr}, H1 q = none → H q = none := fun {q} z => by
      cases hq : H q with
      | none => rfl
      | some o =>
        by_cases hb : q = p
        · rw [hb, hp1] at z; cases z
        · rw [b1 q o hb hq] at z; cases z
    refine ⟨fun σ H3 => ∃ d, σ = [some (.ref p), some g, some (.str e), some (.int k), none, none, none] ∧ But p H H3 ∧ H d = none ∧ Bk T.c_Book H3 p dx d (fun _ => "abort") e k, ?_, ?_⟩
    · refine ⟨_, rfl, ⟨_, T.q_ENTRIES _⟩, fun D nD => dc_tup (xs := ENT.map V.str) (fun i H' => H' D = some (.dK (tabS (ENT.take i) fun _ => "abort")) ∧ Same H1 H')
        ⟨upd_same, same_new (Same.refl H1) nD⟩ (fun i H' _ _ => T.q_ENTRIES H') ?_ ?_⟩
      · rintro i x H' hx ⟨hD, sm⟩
        rw [List.getElem?_map] at hx
        cases hq : ENT[i]? with
        | none => rw [hq] at hx; cases hx
        | some y =>
        rw [hq] at hx
        cases hx
        have hi : i < ENT.length := (List.getElem?_eq_some_iff.mp hq).1
        have hn : y ∉ ENT.take i := fun z => by
          obtain ⟨j, hj, ej⟩ := List.mem_iff_getElem.mp z
          rw [List.length_take] at hj
          rw [List.getElem_take] at ej
          have e2 := (List.pairwise_iff_getElem.mp ent_nodup) j i (by omega) hi (by omega)
          exact e2 (ej.trans (List.getElem?_eq_some_iff.mp hq).2.symm)
        refine ⟨rfl, _, rfl, _, Sum.inr y, rfl, hD, by rw [tab_len, List.length_take]; exact small1000 (by rw [ent_len] at hi ⊢; omega), ?_, ?_⟩
        · rw [upd_same, put_new (g := V.str) (a := ("abort" : Str)) hn, List.take_add_one, hq]
          have e3 : put (fun _ => ("abort" : Str)) y "abort" = (fun _ => ("abort" : Str)) := by funext z; unfold put; split <;> rfl
          rw [e3]
          rfl
        · intro b o z
          rw [upd_ne (ne_of_none z nD)]
          exact sm b o z
      rintro H2 ⟨hD, s2⟩
      rw [List.length_map, show ENT.take ENT.length = ENT from rfl] at hD
      have nDp : D ≠ p := fun z => by rw [z, hp1] at nD; cases nD
      exact ⟨_, rfl, p, T.c_Book, dx, _, rfl, s2 _ _ hp1, T.cl_Book, T.na_Book__answers, by show 2 < 1000; decide, D, rfl, fun b o' hb z => by rw [upd_ne hb]; exact s2 _ _ (b1 b o' hb z), f1 nD, upd_same, by rw [upd_ne nDp]; exact hD⟩
    rintro σ H3 ⟨d, rfl, b3, nd, B3⟩
    have hdp : d ≠ p := fun z => by rw [z, hp] at nd; cases nd
    refine ⟨fun σ H4 => ∃ ga, σ = [some (.ref p), some g, some (.str e), some (.int k), none, some (.ref ga), none] ∧ But p H H4 ∧ Bk T.c_Book H4 p dx d (fun _ => "abort") e k ∧ H4 ga = some (.dK (prs gv)) ∧ ga ≠ d ∧ ga ≠ p ∧ (g = .ref ga ∨ (g = .non ∧ H ga = none)), ?_, ?_⟩
    · refine ⟨_, rfl, rfl, _, rfl, ?_⟩
      rcases hg with ⟨rfl, rfl⟩ | ⟨a, rfl, ha⟩
      · refine iteT fun q nq => ⟨q, rfl, b3.same (same_new (Same.refl H3) nq), B3.same (same_new (Same.refl H3) nq), upd_same, fun z => ?_, fun z => ?_, .inr ⟨rfl, ?_⟩⟩
        · rw [z, B3.tbl] at nq; cases nq
        · rw [z, B3.ins] at nq; cases nq
        · cases hx : H q with
          | none => rfl
          | some o =>
            by_cases hb : q = p
            · rw [hb, B3.ins] at nq; cases nq
            · rw [b3 q o hb hx] at nq; cases nq
      · have hap : a ≠ p := fun z => by rw [z, hp] at ha; cases ha
        exact iteF ⟨_, rfl, a, rfl, b3, B3, b3 _ _ hap ha, fun z => (by rw [z, nd] at ha; cases ha), hap, .inl rfl⟩
    rintro σ H4 ⟨ga, rfl, b4, B4, hga, gad, gap, hgv⟩
    refine ⟨ga, .dK (prs gv), hga, trivial, fun od => ?_⟩
    have AB : (fun _ : Str => ("abort" : Str)) = fill (gv.take 0) (fun _ => "abort") := rfl
    refine ⟨_, rfl, ga, od, prs gv, rfl, upd_same, for_it walk_items (fun i σ H' => ∃ v4 v6, σ = [some (.ref p), some g, some (.str e), some (.int k), v4, some (.ref ga), v6] ∧ H' ga = some (.frz od (.dK (prs gv))) ∧
        Bk T.c_Book H' p dx d (fill (gv.take i) fun _ => "abort") e k ∧ (∀ q ∈ gv.take i, okPair q = true) ∧ (∀ b o, b ≠ p → b ≠ ga → H b = some o → H' b = some o))
      ⟨none, none, rfl, upd_same, ⟨by rw [upd_ne gap.symm]; exact B4.ins, by rw [upd_ne gad.symm]; exact B4.tbl⟩, (fun q hq => by cases hq), fun b o h1 h2 z => by rw [upd_ne h2]; exact b4 b o h1 z⟩ (fun i σ H' _ ⟨_, _, _, z, _⟩ => z) ?_ ?_⟩
    · rintro i x σ H5 H6 hi ⟨v4, v6, rfl, hga5, B5, ok5, b5⟩ ⟨T', x1, x2, rfl, nT, rfl, e1, e2⟩
      have e1 : (prs gv)[i]?.map (fun kv => kV kv.1) = some x1 := e1
      have e2 : (prs gv)[i]?.map Prod.snd = some x2 := e2
      cases hq : (prs gv)[i]? with
      | none => rw [hq] at e1; cases e1
      | some kv =>
      obtain ⟨kk, u⟩ := kv
      rw [hq] at e1 e2
      cases e1
      cases e2
      obtain ⟨en, hgi, rfl⟩ := prs_at hq
      have hfu : flatV u = true := hf _ (List.mem_of_getElem? hgi)
      have hmem : (en, u) ∈ gv := List.mem_of_getElem? hgi
      have hsplit : gv = gv.take i ++ (en, u) :: gv.drop (i + 1) := by
        have hl := (List.getElem?_eq_some_iff.mp hgi).1
        rw [← (List.getElem?_eq_some_iff.mp hgi).2, List.getElem_cons_drop, List.take_append_drop]
      have htake : gv.take (i + 1) = gv.take i ++ [(en, u)] := by rw [List.take_add_one, hgi] <;> rfl
      have s6 : Same H5 (upd H5 T' (.tup [kV (Sum.inr en), u])) := same_new (Same.refl H5) nT
      have badH : ∀ x o, upd H5 T' (.tup [kV (Sum.inr en), u]) x = none → Bad H p g gv (upd (upd H5 T' (.tup [kV (Sum.inr en), u])) x o) := fun x o nx => by
        have nb := same_new (o := o) s6 nx
        refine ⟨fun b o h1 h2 z => ?_, fun a ea => ⟨od, ?_⟩⟩
        · by_cases hb : b = ga
          · subst hb
            rcases hgv with hgv | ⟨hgv, _⟩
            · exact absurd hgv h2
            · rcases hg with ⟨_, rfl⟩ | ⟨a, ea, _⟩
              · cases hmem
              · rw [hgv] at ea; cases ea
          · exact nb b o (b5 b o h1 hb z)
        · rcases hgv with hgv | ⟨hgv, _⟩
          · rw [hgv] at ea
            cases ea
            exact nb _ _ hga5
          · rw [hgv] at ea; cases ea
      have freeH : ∀ x, upd H5 T' (.tup [kV (Sum.inr en), u]) x = none → H x = none := fun x nx => by
        cases hx : H x with
        | none => rfl
        | some o =>
          have n5 := s6.free nx
          by_cases h1 : x = p
          · rw [h1, B5.ins] at n5; cases n5
          · by_cases h2 : x = ga
            · rw [h2, hga5] at n5; cases n5
            · rw [b5 x o h1 h2 hx] at n5; cases n5
      refine ⟨T', _, rfl, SqT.of upd_same, rfl, _, _, rfl, _, _, rfl, rfl, ?_⟩
      have stay : ∀ x o, upd H5 T' (.tup [kV (Sum.inr en), u]) x = none → Same (upd H5 T' (.tup [kV (Sum.inr en), u])) (upd (upd H5 T' (.tup [kV (Sum.inr en), u])) x o) := fun x o nx => same_new (Same.refl _) nx
      refine ⟨_, rfl, _, rfl, .str en, u, rfl, rfl, hfu, fun e' he' hE' hA => ?_, fun hne x nx => ?_, fun e' he' hE' hA x nx => ?_⟩
      · cases he'
        obtain ⟨a, rfl, ha⟩ := hA
        have tdp : d ≠ T' := fun z => by rw [← z, B5.tbl] at nT; cases nT
        refine ⟨_, rfl, _, rfl, p, T.c_Book, dx, _, _, rfl, s6 _ _ B5.ins, T.cl_Book, T.na_Book__answers, rfl, _, rfl, d, _, rfl, DPut.k (k := Sum.inr en) (s6 _ _ B5.tbl) (by rw [tab_len]; exact small1000 (by decide)), ?_⟩
        refine ⟨_, _, rfl, by rw [upd_ne gad]; exact s6 _ _ hga5, ⟨by rw [upd_ne B5.ne]; exact s6 _ _ B5.ins, ?_⟩, fun q hq => ?_, fun b o h1 h2 z => ?_⟩
        · rw [upd_same, put_in (g := V.str) hE', htake, fill_snoc]
        · rw [htake] at hq
          rcases List.mem_append.mp hq with hq | hq
          · exact ok5 q hq
          · rw [List.mem_singleton.mp hq]
            show (decide (en ∈ ENT) && decide (a ∈ chs en)) = true
            rw [decide_eq_true hE', decide_eq_true ha]
            rfl
        · have hb : b ≠ d := fun q => by rw [q, nd] at z; cases z
          rw [upd_ne hb]
          exact s6 _ _ (b5 b o h1 h2 z)
      · refine P.bB hI hk (gv.take i) (en, u) (gv.drop (i + 1)) hsplit ok5 (fun hE' => hne ⟨en, rfl, hE'⟩) _ x (badH x _ nx) (freeH x nx) upd_same
      · cases he'
        have hb : isAnsB en u = false := by
          cases q : isAnsB en u with
          | false => rfl
          | true =>
            cases u with
            | str a => exact absurd ⟨a, rfl, of_decide_eq_true q⟩ hA
            | _ => cases q
        exact P.bA hI hk (gv.take i) (en, u) (gv.drop (i + 1)) hsplit ok5 hE' hb _ x (badH x _ nx) (freeH x nx) upd_same
    · rintro σ H5 ⟨v4, v6, rfl, hga5, B5, ok5, b5⟩
      have et : gv.take (prs gv).length = gv := by rw [prs_len, List.take_length]
      rw [et] at B5 ok5
      refine ⟨hga5, P.ok e k rfl hI rfl hk ok5 _ d (fun b o h1 z => ?_) nd ⟨by rw [upd_ne gap.symm]; exact B5.ins, by rw [upd_ne gad.symm]; exact B5.tbl⟩⟩
      by_cases hb : b = ga
      · subst hb
        rw [upd_same]
        rcases hgv with hgv | ⟨hgv, nga⟩
        · rcases hg with ⟨z0, _⟩ | ⟨a, ea, ha⟩
          · rw [hgv] at z0; cases z0
          · rw [hgv] at ea
            cases ea
            rw [← ha]
            exact z
        · exfalso
          rw [nga] at z
          cases z
      · rw [upd_ne hb]
        exact b5 b o h1 hb z
end
end K06

namespace K06
open PySem L2 SI CM BK OWN
section
variable {w : World} {K : PySem.W.Frag} {mg : Str → Option Value} {base : Heap} (T : Txt w K mg)
/-- book[entry] -/
def spGet (C B : Addr) : Sp := fun vs H Q E => ∃ b dx d f e k v, vs = [.ref b, v] ∧ Bk C H b dx d f e k ∧ flatV v = true ∧ (∀ x, v = .str x → x ∈ ENT → Q (.str (f x)) H) ∧ (¬ isEnt v → ∀ x, H x = none → E (.ref B) (some x) (upd H x (.xd [(("entry" : Str), v)])))
theorem ok_get : FnOk PP w K mg base (L2.CX PP w) 4 T.f_Book_getitem T.d_Book_getitem ["self", "entry"] (spGet T.c_Book T.c_BadEntry) := by
  refine T.F_Book_getitem.okX sc_Book_getitem (fun vs H Q E h => ?_) (fun cdv A outer s H vs Q E hr h => ?_)
  · obtain ⟨b, dx, d, f, e, k, v, rfl, _⟩ := h
    rfl
  · obtain ⟨b, dx, d, f, e, k, v, rfl, B, fv, kT, kF⟩ := h
    refine ⟨_, pss_cons (ps_if (pt_cmpR op_notIn_seq (pv 1) (pe_glob (v := .ref T.o_ENTRIES) (by rfl) T.g_ENTRIES rfl) rfl)
 (pss_one (ps_raise rfl (takes_of rfl rfl rfl rfl) (pmk_oex T.oex_BadEntry T.i_BadEntry_init T.t_BadEntry_init (ok_BadEntry T) (hr.mono (by decide)) (b_BadEntry_init T) .nil pass0 (by rfl) T.g_BadEntry (pa_cons (pv 1) pa_nil))))
 pss_nil)
 (pss_one (ps_ret (pe_dget (hu_of hr) (pe_fld (pv 0) rfl) (pv 1) (fun _ _ => rfl)))), ?_⟩
    refine ⟨_, rfl, T.o_ENTRIES, ENT.map V.str, rfl, .inr (T.q_ENTRIES H), fv, flat_strs _, _, rfl, ?_⟩
    by_cases hE : isEnt v
    · obtain ⟨x, rfl, hx⟩ := hE
      rw [inV_str, decide_eq_true hx]
      refine iteF ⟨_, rfl, b, T.c_Book, dx, _, _, rfl, B.ins, T.cl_Book, T.na_Book__answers, rfl, _, rfl, d, .str (f x), rfl, ?_, kT x rfl hx⟩
      have g := DGet.k (k := Sum.inr x) B.tbl
      rw [val_in (g := V.str) hx] at g
      exact g
    · rw [inV_not fun x h1 h2 => hE ⟨x, h1, h2⟩]
      exact iteT ⟨_, rfl, rz1 (kF hE)⟩
end
end K06

namespace K06
open PySem L2 SI CM BK OWN
section
variable {w : World} {K : PySem.W.Frag} {mg : Str → Option Value} {base : Heap} (T : Txt w K mg)
/-- book[entry] = answer -/
structure SetP (C B A : Addr) (d : Addr) (f : Str → Str) (v u : V) (H : Hp) (Q : VK) (E : XK) : Prop where
  ok : ∀ x a, v = .str x → u = .str a → x ∈ ENT → a ∈ chs x → Q .non (upd H d (.dK (tabS ENT (put f x a))))
  bE : ¬ isEnt v → ∀ x, H x = none → E (.ref B) (some x) (upd H x (.xd [(("entry" : Str), v)]))
  bA : ∀ x, v = .str x → x ∈ ENT → ¬ isAns x u → ∀ z, H z = none → E (.ref A) (some z) (upd H z (.xd [(("answer" : Str), u), (("entry" : Str), v)]))
def spSetI (C B A : Addr) : Sp := fun vs H Q E => ∃ b dx d f e k v u, vs = [.ref b, v, u] ∧ Bk C H b dx d f e k ∧ flatV v = true ∧ flatV u = true ∧ SetP C B A d f v u H Q E
theorem ok_setitem : FnOk PP w K mg base (L2.CX PP w) 6 T.f_Book_setitem T.d_Book_setitem ["self", "entry", "answer"] (spSetI T.c_Book T.c_BadEntry T.c_BadAnswer) := by
  refine T.F_Book_setitem.okX sc_Book_setitem (fun vs H Q E h => ?_) (fun cdv A outer s H vs Q E hr h => ?_)
  · obtain ⟨b, dx, d, f, e, k, v, u, rfl, _⟩ := h
    rfl
  · obtain ⟨b, dx, d, f, e, k, v, u, rfl, B, fv, fu, P⟩ := h
    refine ⟨_, pss_cons (ps_expr (pe_call (ok_check_answer T) (hr.mono (by decide)) (by rfl) T.g_check_answer T.F_check_answer.kp (b_check_answer T) .nil (passes_call (takes_of rfl rfl rfl rfl) fun _ _ _ _ h => h) (pa_cons (pv 1) (pa_cons (pv 2) pa_nil))))
 (pss_one (ps_dput (hu_of hr) (pe_fld (pv 0) rfl) (pv 1) (pv 2) rfl)), ?_⟩
    refine ⟨_, rfl, _, rfl, v, u, rfl, fv, fu, fun x hx hE hA => ?_, P.bE, P.bA⟩
    subst hx
    obtain ⟨a, rfl, ha⟩ := hA
    refine ⟨_, rfl, _, rfl, b, T.c_Book, dx, _, _, rfl, B.ins, T.cl_Book, T.na_Book__answers, rfl, _, rfl, d, _, rfl, DPut.k (k := Sum.inr x) B.tbl (by rw [tab_len]; exact small1000 (by decide)), ?_⟩
    have z := P.ok x a rfl rfl hE ha
    have pe := put_in (g := V.str) (f := f) (a := a) hE
    rw [show tabS ENT (put f x a) = _ from pe.symm] at z
    exact z
end
end K06

namespace K06
open PySem L2 SI CM BK OWN
section
variable {w : World} {K : PySem.W.Frag} {mg : Str → Option Value} {base : Heap} (T : Txt w K mg)
abbrev psB : List Str := ["self", "answers", "ends", "keep"]
/-- Book(x, ends=.., keep=..) -/
theorem kbEK : ∃ (g : List Value → List Value → List Value), KBn K T.d_Book_init psB 2 ["ends", "keep"] g (fun vs zs => vs ++ zs) := by
  obtain ⟨its, mv, h⟩ := T.F_Book_init.kbinds (ps := psB) 2 ["ends", "keep"] [] (fun us its mv ws => us ++ ws) (by simp) (by simp) (fun q h => by cases h) (fun r1 _ _ r4 => r1.append r4)
    fun T D doc pm an cdv ct us its mv ws l1 l2 l3 l4 => match us, its, mv, ws, l1, l2, l3, l4 with
      | [_, _], [_], [], [_, _], _, _, _, _ => ⟨_, rfl, rfl⟩
  exact ⟨_, h⟩
/-- Book(x, ends=..) -/
theorem kbE : ∃ (g : List Value → List Value → List Value), KBn K T.d_Book_init psB 2 ["ends"] g (fun vs zs => vs ++ (zs ++ [.int 1])) := by
  obtain ⟨its, mv, h⟩ := T.F_Book_init.kbinds (ps := psB) 2 ["ends"] [("keep", .int 1)] (fun us its mv ws => us ++ (ws ++ mv)) (by simp) (by simp) (fun q h => by rw [List.mem_singleton.mp h]; simp) (fun r1 _ r3 r4 => r1.append (r4.append r3))
    fun T D doc pm an cdv ct us its mv ws l1 l2 l3 l4 => match us, its, mv, ws, l1, l2, l3, l4 with
      | [_, _], [_], [_], [_], _, _, _, _ => ⟨_, rfl, _, _, _, _, _, _, rfl, rfl, rfl⟩
  exact ⟨_, h⟩
/-- Book(x, keep=..) -/
theorem kbK : ∃ (g : List Value → List Value → List Value), KBn K T.d_Book_init psB 2 ["keep"] g (fun vs zs => vs ++ ([.str "now"] ++ zs)) := by
  obtain ⟨its, mv, h⟩ := T.F_Book_init.kbinds (ps := psB) 2 ["keep"] [("ends", .str "now")] (fun us its mv ws => us ++ (mv ++ ws)) (by simp) (by simp) (fun q h => by rw [List.mem_singleton.mp h]; simp) (fun r1 _ r3 r4 => r1.append (r3.append r4))
    fun T D doc pm an cdv ct us its mv ws l1 l2 l3 l4 => match us, its, mv, ws, l1, l2, l3, l4 with
      | [_, _], [_], [_], [_], _, _, _, _ => ⟨_, rfl, _, _, _, _, _, _, rfl, rfl, rfl⟩
  exact ⟨_, h⟩
/-- Book() -/
theorem kb0 : ∃ ds, Vals [.non, .str "now", .int 1] ds ∧ Binds K T.d_Book_init psB ds :=
  T.F_Book_init.binds (ps := psB) 1 0 (by simp) rfl (fun T D doc pm an cdv ct us its ks l1 l2 l3 => match us, its, ks, l1, l2, l3 with
    | [_], [_], [_, _], _, _, _ => ⟨_, rfl, _, _, _, _, _, _, rfl, rfl, _, _, _, _, _, _, rfl, rfl, rfl⟩) (by simp)
/-- Book(x) -/
theorem kb1 : ∃ ds, Vals [.str "now", .int 1] ds ∧ Binds K T.d_Book_init psB ds :=
  T.F_Book_init.binds (ps := psB) 2 1 (by simp) rfl (fun T D doc pm an cdv ct us its ks l1 l2 l3 => match us, its, ks, l1, l2, l3 with
    | [_, _], [_], [_, _], _, _, _ => ⟨_, rfl, _, _, _, _, _, _, rfl, rfl, _, _, _, _, _, _, rfl, rfl, rfl⟩) (by simp)
/-- a book is made -/
theorem mk_book {C S B A : Addr} {H2 : Hp} {g : V} {gv : List (Str × V)} {e : Str} {k : Int} {R : VK} {E : XK} {x dx : Addr} (hg : Giv H2 g gv) (hI : isEnds (.str e)) (hk : keepV (.int k) = true) (hok : ∀ q ∈ gv, okPair q = true)
    (nx : H2 x = none) (ndx : H2 dx = none) (h : ∀ H' d, Same H2 H' → H2 d = none → Bk C H' x dx d (fill gv fun _ => "abort") e k → R .non H') :
    spInit C S B A [.ref x, g, .str e, .int k] (upd (upd H2 dx (.own x)) x (.ins C dx [])) R E := by
  have sm : Same H2 (upd (upd H2 dx (.own x)) x (.ins C dx [])) := fun b o z => by
    rw [upd_ne (ne_of_none z nx), upd_ne (ne_of_none z ndx)]
    exact z
  refine ⟨x, dx, g, gv, _, _, rfl, upd_same, rfl, rfl, ?_, fun q hq => ?_, ⟨fun e' k' he _ hk' _ _ H' d b nd Bb => ?_, fun z => absurd hI z, (fun _ z => by rw [hk] at z; cases z), fun _ _ pre q post eq _ hn => ?_, fun _ _ pre q post eq _ _ hb => ?_⟩⟩
  · rcases hg with ⟨h1, h2⟩ | ⟨a, h1, h2⟩
    · exact .inl ⟨h1, h2⟩
    · exact .inr ⟨a, h1, sm _ _ h2⟩
  · have z := hok q hq
    obtain ⟨qe, qv⟩ := q
    cases qv with
    | str a => rfl
    | _ => unfold okPair isAnsB at z; simp at z
  · cases he
    cases hk'
    refine h H' d (fun b' o z => b b' o (ne_of_none z nx) (sm b' o z)) ?_ Bb
    exact sm.free nd
  · have z := hok q (by rw [eq]; simp)
    unfold okPair at z
    rw [decide_eq_false hn] at z
    cases z
  · have z := hok q (by rw [eq]; simp)
    unfold okPair at z
    rw [hb, Bool.and_false] at z
    cases z
/-- a book as it may stand -/
structure Gd (f : Str → Str) (e : Str) (k : Int) : Prop where
  en : isEnds (.str e)
  kp : keepV (.int k) = true
  an : ∀ x ∈ ENT, f x ∈ chs x
theorem Bk.congr {C : Addr} {H : Hp} {b dx d : Addr} {f f' : Str → Str} {e : Str} {k : Int} (h : Bk C H b dx d f e k) (hf : ∀ x ∈ ENT, f x = f' x) : Bk C H b dx d f' e k := ⟨h.ins, by rw [h.tbl]; exact congrArg _ (congrArg _ (tab_congr hf))⟩
theorem ok_tab {f : Str → Str} (h : ∀ x ∈ ENT, f x ∈ chs x) : ∀ q ∈ ENT.map (fun e => (e, V.str (f e))), okPair q = true := by
  intro q hq
  obtain ⟨e, he, rfl⟩ := List.mem_map.mp hq
  show (decide (e ∈ ENT) && decide (f e ∈ chs e)) = true
  rw [decide_eq_true he, decide_eq_true (h e he)]
  rfl
end
end K06

namespace K06
open PySem L2 SI CM BK OWN
section
variable {w : World} {K : PySem.W.Frag} {mg : Str → Option Value} {base : Heap} (T : Txt w K mg)
def spCopy (C : Addr) : Sp := fun vs H Q _ => ∃ b dx d f e k, vs = [.ref b] ∧ Bk C H b dx d f e k ∧ Gd f e k ∧ ∀ H' b' dx' d', Same H H' → H b' = none → H d' = none → Bk C H' b' dx' d' f e k → Q (.ref b') H'
theorem ok_copy : FnOk PP w K mg base CX0 8 T.f_Book_copy T.d_Book_copy ["self"] (spCopy T.c_Book) := by
  refine T.F_Book_copy.ok sc_Book_copy (fun vs H Q E h => ?_) (fun cdv A outer s H vs Q E hr h => ?_)
  · obtain ⟨b, dx, d, f, e, k, rfl, _⟩ := h
    rfl
  · obtain ⟨b, dx, d, f, e, k, rfl, B, G, q⟩ := h
    obtain ⟨g, kb⟩ := kbEK T
    refine ⟨_, pss_one (ps_ret (pe_makeK (n := 1) T.mk_Book (ok_Book_init T) (hr.mono (by decide)) (by rfl) T.g_Book kb passL (pa_cons (pe_fld (pv 0) rfl) pa_nil) (pk_cons (pe_fld (pv 0) rfl) (pk_cons (pe_fld (pv 0) rfl) pk_nil)))), ?_⟩
    refine ⟨_, rfl, b, T.c_Book, dx, _, _, rfl, B.ins, T.cl_Book, T.na_Book__answers, rfl, _, rfl, b, T.c_Book, dx, _, _, rfl, B.ins, T.cl_Book, T.na_Book__ends, rfl, _, rfl, b, T.c_Book, dx, _, _, rfl, B.ins, T.cl_Book, T.na_Book__keep, rfl, rfl, rfl, ?_⟩
    refine fun b' dx' nb ndx ne => mk_book (gv := ENT.map fun e => (e, V.str (f e))) (.inr ⟨d, rfl, by rw [← tabS_prs]; exact B.tbl⟩) G.en G.kp (ok_tab G.an) nb ndx fun H' d' sm nd Bb => ⟨rfl, q H' b' dx' d' sm nb nd ?_⟩
    exact Bk.congr Bb fun x hx => by rw [fill_tab ent_nodup, if_pos hx]
end
end K06

namespace K06
open PySem L2 SI CM BK OWN
section
variable {w : World} {K : PySem.W.Frag} {mg : Str → Option Value} {base : Heap} (T : Txt w K mg)
def spCell (K : PySem.W.Frag) : Sp := fun vs H Q _ => ∃ (a : Addr) (ns : List Int) (k : Nat), vs = [.ref a, .int (k : Int)] ∧ SqL K H a (ns.map V.int) ∧ ns.length ≤ 63 ∧ Q (.int (ns.getD k 0)) H
theorem ok_cell : FnOk PP w K mg base CX0 1 T.f_law_cell T.d_law_cell ["_law_script", "_law_k"] (spCell K) := by
  refine T.F_law_cell.ok sc_law_cell (fun vs H Q E h => ?_) (fun cdv A outer s H vs Q E hr h => ?_)
  · obtain ⟨a, ns, k, rfl, _⟩ := h
    rfl
  · obtain ⟨a, ns, i, rfl, hS, hlen, k⟩ := h
    refine ⟨_, pss_cons (ps_if (pt_cmpR op_lt (pv 1) (pe_callB call_len_seq (by rfl) T.n_len PySem.boot_len (pa_cons (pv 0) pa_nil)) (nomark _)) (pss_one (ps_ret (pe_ix ix_list (pv 0) (pv 1) (fun _ _ => rfl)))) pss_nil) (pss_one (ps_ret pe_int)), ?_⟩
    refine ⟨_, rfl, _, rfl, a, _, rfl, .inl hS, _, _, rfl, rfl, _, rfl, ?_⟩
    rw [List.length_map]
    by_cases h : (i : Int) < (ns.length : Int)
    · rw [decide_eq_true h]
      have hi : i < ns.length := by omega
      refine iteT ⟨_, rfl, _, rfl, a, _, _, .int (ns.getD i 0), rfl, rfl, hS, atI_nat (by rw [List.getElem?_map, List.getElem?_eq_getElem hi, List.getD_eq_getElem?_getD, List.getElem?_eq_getElem hi] <;> rfl), k⟩
    · rw [decide_eq_false h]
      have hi : ns.length ≤ i := by omega
      refine iteF ?_
      rw [List.getD_eq_getElem?_getD, List.getElem?_eq_none hi] at k
      exact k
/-- xs[i] of a list of ints -/
theorem ints_at {ds : List Int} {i : Nat} {x : V} (h : (ds.map V.int)[i]? = some x) : ∃ d, ds[i]? = some d ∧ x = V.int d := by
  rw [List.getElem?_map] at h
  cases q : ds[i]? with
  | none =>
    rw [q] at h
    cases h
  | some d =>
    rw [q] at h
    exact ⟨d, rfl, (Option.some.inj h).symm⟩
def spRow : Sp := fun vs H Q _ => ∃ (c : Int) (n : Nat) (b : Int), vs = [.int c, .int (n : Int), .int b] ∧ 0 < b ∧ b < 1000 ∧ n ≤ 1000 ∧
  ∀ (H' : Hp) (p : Addr) (ds : List Int), Same H H' → H p = none → H' p = some (.lst (ds.map V.int)) → ds.length = n → (∀ d ∈ ds, 0 ≤ d ∧ d < b) → Q (.ref p) H'
theorem ok_row : FnOk PP w K mg base CX0 1 T.f_law_row T.d_law_row ["_law_cell_here", "_law_count", "_law_base"] spRow := by
  refine T.F_law_row.ok sc_law_row (fun vs H Q E h => ?_) (fun cdv A outer s H vs Q E hr h => ?_)
  · obtain ⟨c, n, b, rfl, _⟩ := h
    rfl
  · obtain ⟨c, n, b, rfl, b0, b1, hn, k⟩ := h
    refine ⟨_, pss_cons (ps_set (i := 3) sc_law_row.nd rfl (.inl rfl) (pe_lst pa_nil))
 (pss_cons (ps_set (i := 4) sc_law_row.nd rfl (.inl rfl) (pv 0))
 (pss_cons (ps_set (i := 5) sc_law_row.nd rfl (.inl rfl) (pe_op op_mod (pe_callTy call_int1 (by rfl) T.n_int (by decide +kernel) (pa_cons (pe_op op_add (pe_op op_mul (pv 0) pe_int) pe_int) pa_nil)) pe_int))
 (pss_cons (ps_for PassesOwn.never rfl (pi_range1 rfl T.n_range (pa_cons (pv 1) pa_nil)) (pg_name (i := 6) sc_law_row.nd rfl (.inl rfl))
 (pss_one (ps_if (pt_cmpR op_ge (pv 0) (pe_op op_pow pe_int pe_int) (nomark _))
 (pss_cons (ps_expr (pe_bm PySem.F.plainAttrs_list PySem.F.slot_list_append PySem.F.type_list_append mt_append (pv 3) (pa_cons (pe_op op_mod (pe_callTy call_int1 (by rfl) T.n_int (by decide +kernel) (pa_cons (pv 4) pa_nil)) (pv 2)) pa_nil)))
 (pss_one (ps_set (i := 4) sc_law_row.nd rfl (.inl rfl) (pe_op op_fdiv (pv 4) (pv 2)))))
 (pss_cons (ps_set (i := 5) sc_law_row.nd rfl (.inl rfl) (pe_op op_mod (pe_callTy call_int1 (by rfl) T.n_int (by decide +kernel) (pa_cons (pe_op op_add (pe_op op_mul (pv 5) pe_int) pe_int) pa_nil)) pe_int))
 (pss_cons (ps_set (i := 5) sc_law_row.nd rfl (.inl rfl) (pe_op op_mod (pe_callTy call_int1 (by rfl) T.n_int (by decide +kernel) (pa_cons (pe_op op_add (pe_op op_mul (pv 5) pe_int) (pv 6)) pa_nil)) pe_int))
 (pss_one (ps_expr (pe_bm PySem.F.plainAttrs_list PySem.F.slot_list_append PySem.F.type_list_append mt_append (pv 3) (pa_cons (pe_op op_mod (pe_callTy call_int1 (by rfl) T.n_int (by decide +kernel) (pa_cons (pe_op op_fdiv (pv 5) pe_int) pa_nil)) (pv 2)) pa_nil)))))))))
 (pss_one (ps_ret (pv 3)))))), ?_⟩
    have m1 : (0 : Int) < 2147483647 := by decide
    have m2 : (0 : Int) < 2147483629 := by decide
    refine ⟨Nat.zero_le _, fun R nR => ⟨_, rfl, _, rfl, _, _, rfl, rfl, .inr ⟨by decide, by decide⟩, _, _, rfl, rfl, .inl ⟨_, rfl, _, _, rfl, rfl, m1, ?_⟩⟩⟩
    refine ⟨_, rfl, _, rfl, by omega, by omega, for_range (lo := 0) (n := n) (fun i σ H' => ∃ (ds : List Int) (v4 v5 : Int) (v6 : Option V), ds.length = i ∧ (∀ d ∈ ds, 0 ≤ d ∧ d < b) ∧ H' R = some (.lst (ds.map V.int)) ∧ Same H H' ∧ σ = [some (.int c), some (.int (n : Int)), some (.int b), some (.ref R), some (.int v4), some (.int v5), v6])
      ⟨[], c, _, _, rfl, (fun _ h => by cases h), upd_same, same_new (Same.refl H) nR, rfl⟩ ?_ ?_⟩
    · rintro i σ H' hi ⟨ds, v4, v5, v6, hl, hd, hR, sm, rfl⟩
      have stp : ∀ (d : Int), 0 ≤ d → d < b → (∀ x ∈ ds ++ [d], 0 ≤ x ∧ x < b) ∧ (upd H' R (.lst (ds.map V.int ++ [.int d]))) R = some (.lst ((ds ++ [d]).map V.int)) ∧ Same H (upd H' R (.lst (ds.map V.int ++ [.int d]))) := by
        intro d d0 d1
        refine ⟨fun x hx => ?_, ?_, fun bb o z => ?_⟩
        · rcases List.mem_append.mp hx with h | h
          · exact hd x h
          · rw [List.mem_singleton.mp h]
            exact ⟨d0, d1⟩
        · rw [upd_same, List.map_append]
          rfl
        · rw [upd_ne (ne_of_none z nR)]
          exact sm bb o z
      have lenR : (ds.map V.int).length < sizeLine := small1000 (by rw [List.length_map]; omega)
      have e0 := fun x : Int => Int.emod_nonneg x (Int.ne_of_gt b0)
      have e1 := fun x : Int => Int.emod_lt_of_pos x b0
      refine ⟨_, rfl, _, _, rfl, rfl, ⟨by decide, by decide, by decide⟩, _, _, rfl, rfl, _, rfl, ?_⟩
      refine ite2 (fun _ => ?_) (fun _ => ?_)
      · obtain ⟨s1, s2, s3⟩ := stp (v4 % b) (e0 _) (e1 _)
        exact ⟨_, rfl, .inl ⟨rfl, _, SqL.of hR⟩, _, rfl, .inl ⟨_, rfl, _, rfl, _, _, rfl, rfl, b0, R, _, _, rfl, rfl, hR, lenR, _, rfl, _, rfl, _, _, rfl, rfl, ⟨b0, by omega⟩, ds ++ [v4 % b], _, _, _, by simp [hl], s1, s2, s3, rfl⟩⟩
      · refine ⟨_, rfl, _, _, rfl, rfl, .inr ⟨by decide, by decide⟩, _, _, rfl, rfl, .inl ⟨_, rfl, _, _, rfl, rfl, m1, ?_⟩⟩
        refine ⟨_, rfl, _, _, rfl, rfl, .inr ⟨by decide, by decide⟩, _, rfl, _, _, rfl, rfl, .inl ⟨_, rfl, _, _, rfl, rfl, m2, ?_⟩⟩
        refine ⟨_, rfl, .inl ⟨rfl, _, SqL.of hR⟩, _, rfl, _, _, rfl, rfl, ⟨by decide, by decide⟩, .inl ⟨_, rfl, _, rfl, _, _, rfl, rfl, b0, R, _, _, rfl, rfl, hR, lenR, ?_⟩⟩
        exact ⟨ds ++ [_], _, _, _, by simp [hl], (stp _ (e0 _) (e1 _)).1, (stp _ (e0 _) (e1 _)).2.1, (stp _ (e0 _) (e1 _)).2.2, rfl⟩
    · rintro σ H' ⟨ds, v4, v5, v6, hl, hd, hR, sm, rfl⟩
      exact ⟨_, rfl, k H' R ds sm nR hR hl hd⟩

def spEntries : Sp := fun vs H Q _ => vs = [] ∧ ∀ H' p, Same H H' → H p = none → H' p = some (.lst (ENT.map V.str)) → Q (.ref p) H'
theorem ok_entries : FnOk PP w K mg base CX0 1 T.f_law_entries T.d_law_entries [] spEntries := by
  refine T.F_law_entries.ok sc_law_entries (fun vs H Q E h => ?_) (fun cdv A outer s H vs Q E hr h => ?_)
  · obtain ⟨rfl, _⟩ := h
    rfl
  · obtain ⟨rfl, k⟩ := h
    refine ⟨_, pss_cons (ps_set (i := 0) sc_law_entries.nd rfl (.inl rfl) (pe_lst (pa_cons pe_str (pa_cons pe_str (pa_cons pe_str (pa_cons pe_str pa_nil))))))
 (pss_cons (ps_set (i := 0) sc_law_entries.nd rfl (.inl rfl) (pe_op op_cat (pv 0) (pe_lst (pa_cons pe_str (pa_cons pe_str (pa_cons pe_str (pa_cons pe_str pa_nil)))))))
 (pss_cons (ps_set (i := 0) sc_law_entries.nd rfl (.inl rfl) (pe_op op_cat (pv 0) (pe_lst (pa_cons pe_str (pa_cons pe_str (pa_cons pe_str pa_nil))))))
 (pss_one (ps_ret (pe_op op_cat (pv 0) (pe_lst (pa_cons pe_str (pa_cons pe_str (pa_cons pe_str pa_nil))))))))), ?_⟩
    have l4 : 4 ≤ sizeLine := by decide
    have l3 : 3 ≤ sizeLine := by decide
    refine ⟨l4, fun p1 n1 => ?_⟩
    have s1 := same_new (o := .lst [.str "read late", .str "read under", .str "read below", .str "read above"]) (Same.refl H) n1
    refine ⟨_, rfl, l4, fun p2 n2 => ?_⟩
    have s2 := same_new (o := .lst [.str "write late", .str "write under", .str "write below", .str "write above"]) s1 n2
    refine ⟨p1, p2, _, _, rfl, rfl, kp n2 upd_same, upd_same, (by decide : 4 + 4 ≤ sizeLine), fun p3 n3 => ?_⟩
    have s3 := same_new (o := .lst ((ENT.take 8).map V.str)) s2 n3
    refine ⟨_, rfl, l3, fun p4 n4 => ?_⟩
    have s4 := same_new (o := .lst [.str "write free passed", .str "write own passed", .str "write late passed"]) s3 n4
    refine ⟨p3, p4, _, _, rfl, rfl, kp n4 upd_same, upd_same, (by decide : 8 + 3 ≤ sizeLine), fun p5 n5 => ?_⟩
    have s5 := same_new (o := .lst ((ENT.take 11).map V.str)) s4 n5
    refine ⟨_, rfl, l3, fun p6 n6 => ?_⟩
    have s6 := same_new (o := .lst [.str "write under passed", .str "write below passed", .str "write above passed"]) s5 n6
    refine ⟨p5, p6, _, _, rfl, rfl, kp n6 upd_same, upd_same, (by decide : 11 + 3 ≤ sizeLine), fun p7 n7 => ?_⟩
    exact k _ p7 (same_new (o := .lst (ENT.map V.str)) s6 n7) (s6.free n7) upd_same
def spChoices : Sp := fun vs H Q _ => ∃ e, vs = [.str e] ∧ ∀ H' p, Same H H' → H p = none → H' p = some (.lst ((chs e).map V.str)) → Q (.ref p) H'
theorem ok_choices : FnOk PP w K mg base CX0 1 T.f_law_choices T.d_law_choices ["_law_name"] spChoices := by
  refine T.F_law_choices.ok sc_law_choices (fun vs H Q E h => ?_) (fun cdv A outer s H vs Q E hr h => ?_)
  · obtain ⟨e, rfl, _⟩ := h
    rfl
  · obtain ⟨e, rfl, k⟩ := h
    refine ⟨_, pss_cons (ps_if (pt_cmpR op_eq (pv 0) pe_str (nomark _))
 (pss_one (ps_ret (pe_lst (pa_cons pe_str (pa_cons pe_str (pa_cons pe_str pa_nil))))))
 pss_nil)
 (pss_cons (ps_if (pt_cmpR op_eq (pv 0) pe_str (nomark _))
 (pss_one (ps_ret (pe_lst (pa_cons pe_str (pa_cons pe_str (pa_cons pe_str (pa_cons pe_str (pa_cons pe_str pa_nil))))))))
 pss_nil)
 (pss_cons (ps_if (pt_cmpR op_in_seq (pv 0) (pe_lst (pa_cons pe_str (pa_cons pe_str pa_nil))) rfl)
 (pss_one (ps_ret (pe_lst (pa_cons pe_str (pa_cons pe_str (pa_cons pe_str (pa_cons pe_str pa_nil)))))))
 pss_nil)
 (pss_cons (ps_if (pt_cmpR op_in_seq (pv 0) (pe_lst (pa_cons pe_str (pa_cons pe_str pa_nil))) rfl)
 (pss_one (ps_ret (pe_lst (pa_cons pe_str (pa_cons pe_str pa_nil)))))
 pss_nil)
 (pss_cons (ps_if (pt_cmpR op_in_seq (pv 0) (pe_lst (pa_cons pe_str (pa_cons pe_str pa_nil))) rfl)
 (pss_one (ps_ret (pe_lst (pa_cons pe_str (pa_cons pe_str pa_nil)))))
 pss_nil)
 (pss_one (ps_ret (pe_lst (pa_cons pe_str (pa_cons pe_str (pa_cons pe_str (pa_cons pe_str pa_nil))))))))))), ?_⟩
    have l2 : 2 ≤ sizeLine := by decide
    have l3 : 3 ≤ sizeLine := by decide
    have l4 : 4 ≤ sizeLine := by decide
    have l5 : 5 ≤ sizeLine := by decide
    have ds : ∀ a b : Str, decide (V.str a = V.str b) = decide (a = b) := fun a b => decide_eq_decide.mpr ⟨V.str.inj, congrArg _⟩
    refine ⟨_, rfl, rfl, _, rfl, ?_⟩
    rw [ds]
    by_cases h1 : e = "read late"
    · rw [decide_eq_true h1]
      have ec : chs e = [("last" : Str), "old", "abort"] := by unfold chs; rw [if_pos h1]
      rw [ec] at k
      exact iteT ⟨l3, fun p n => k _ p (same_new (Same.refl H) n) n upd_same⟩
    rw [decide_eq_false h1]
    refine iteF ⟨_, rfl, rfl, _, rfl, ?_⟩
    rw [ds]
    by_cases h2 : e = "read under"
    · rw [decide_eq_true h2]
      have ec : chs e = [("last" : Str), "old", "open", "wait", "abort"] := by unfold chs; rw [if_neg h1, if_pos h2]
      rw [ec] at k
      exact iteT ⟨l5, fun p n => k _ p (same_new (Same.refl H) n) n upd_same⟩
    rw [decide_eq_false h2]
    have mem2 : ∀ a b : Str, inV (.str e) [.str a, .str b] = decide (e = a ∨ e = b) := fun a b => by
      have z := inV_str e [a, b]
      simp only [List.mem_cons, List.not_mem_nil, or_false] at z
      exact z
    refine iteF ⟨_, rfl, l2, fun p1 n1 => ⟨p1, _, rfl, .inl (SqL.of upd_same), rfl, rfl, _, rfl, ?_⟩⟩
    have s1 := same_new (o := .lst [.str "read below", .str "read above"]) (Same.refl H) n1
    rw [if_neg Bool.false_ne_true, mem2]
    by_cases h3 : e = "read below" ∨ e = "read above"
    · rw [decide_eq_true h3]
      have ec : chs e = [("last" : Str), "open", "wait", "abort"] := by unfold chs; rw [if_neg h1, if_neg h2, if_pos h3]
      rw [ec] at k
      exact iteT ⟨l4, fun p n => k _ p (same_new s1 n) (s1.free n) upd_same⟩
    rw [decide_eq_false h3]
    refine iteF ⟨_, rfl, l2, fun p2 n2 => ⟨p2, _, rfl, .inl (SqL.of upd_same), rfl, rfl, _, rfl, ?_⟩⟩
    have s2 := same_new (o := .lst [.str "write free passed", .str "write own passed"]) s1 n2
    rw [if_neg Bool.false_ne_true, mem2]
    by_cases h4 : e = "write free passed" ∨ e = "write own passed"
    · rw [decide_eq_true h4]
      have ec : chs e = [("put" : Str), "abort"] := by unfold chs; rw [if_neg h1, if_neg h2, if_neg h3, if_pos h4]
      rw [ec] at k
      exact iteT ⟨l2, fun p n => k _ p (same_new s2 n) (s2.free n) upd_same⟩
    rw [decide_eq_false h4]
    refine iteF ⟨_, rfl, l2, fun p3 n3 => ⟨p3, _, rfl, .inl (SqL.of upd_same), rfl, rfl, _, rfl, ?_⟩⟩
    have s3 := same_new (o := .lst [.str "write late", .str "write late passed"]) s2 n3
    rw [if_neg Bool.false_ne_true, mem2]
    by_cases h5 : e = "write late" ∨ e = "write late passed"
    · rw [decide_eq_true h5]
      have ec : chs e = [("skip" : Str), "abort"] := by unfold chs; rw [if_neg h1, if_neg h2, if_neg h3, if_neg h4, if_pos h5]
      rw [ec] at k
      exact iteT ⟨l2, fun p n => k _ p (same_new s3 n) (s3.free n) upd_same⟩
    rw [decide_eq_false h5]
    have ec : chs e = [("skip" : Str), "wait", "wound", "abort"] := by unfold chs; rw [if_neg h1, if_neg h2, if_neg h3, if_neg h4, if_neg h5]
    rw [ec] at k
    exact iteF ⟨l4, fun p n => k _ p (same_new s3 n) (s3.free n) upd_same⟩
end
end K06

namespace K06
open PySem L2 SI CM BK OWN
section
variable {w : World} {K : PySem.W.Frag} {mg : Str → Option Value} {base : Heap} (T : Txt w K mg)
/-- a drawn table -/
def spTable : Sp := fun vs H Q _ => ∃ c : Int, vs = [.int c] ∧ ∀ H' p (f : Str → Str), Same H H' → H p = none → H' p = some (.dK (tabS ENT f)) → (∀ e ∈ ENT, f e ∈ chs e) → Q (.ref p) H'
theorem ok_table : FnOk PP w K mg base CX0 2 T.f_law_table T.d_law_table ["_law_cell_here"] spTable := by
  refine T.F_law_table.ok sc_law_table (fun vs H Q E h => ?_) (fun cdv A outer s H vs Q E hr h => ?_)
  · obtain ⟨c, rfl, _⟩ := h
    rfl
  · obtain ⟨c, rfl, k⟩ := h
    refine ⟨_, pss_cons (ps_set (i := 1) sc_law_table.nd rfl (.inl rfl) pe_dnewK)
 (pss_cons (ps_set (i := 2) sc_law_table.nd rfl (.inl rfl) (pe_call0 (ok_entries T) (hr.mono (by decide)) (by rfl) T.g_law_entries T.F_law_entries.kp (b_law_entries T) .nil pass0))
 (pss_cons (ps_set (i := 3) sc_law_table.nd rfl (.inl rfl) (pe_call (ok_row T) (hr.mono (by decide)) (by rfl) T.g_law_row T.F_law_row.kp (b_law_row T) .nil pass0 (pa_cons (pv 0) (pa_cons pe_int (pa_cons pe_int pa_nil)))))
 (C8.pss_cut (ps_for PassesOwn.never rfl (pi_range1 rfl T.n_range (pa_cons pe_int pa_nil)) (pg_name (i := 4) sc_law_table.nd rfl (.inl rfl))
 (pss_cons (ps_set (i := 5) sc_law_table.nd rfl (.inl rfl) (pe_call (ok_choices T) (hr.mono (by decide)) (by rfl) T.g_law_choices T.F_law_choices.kp (b_law_choices T) .nil pass0 (pa_cons (pe_ix ix_list (pv 2) (pv 4) (fun _ _ => rfl)) pa_nil)))
 (pss_one (ps_dput (hu_of hr) (pv 1) (pe_ix ix_list (pv 2) (pv 4) (fun _ _ => rfl)) (pe_ix ix_list (pv 5) (pe_op op_mod (pe_callTy call_int1 (by rfl) T.n_int (by decide +kernel) (pa_cons (pe_ix ix_list (pv 3) (pv 4) (fun _ _ => rfl)) pa_nil)) (pe_callB call_len_seq (by rfl) T.n_len PySem.boot_len (pa_cons (pv 5) pa_nil))) (fun _ _ => rfl)) rfl))))
 (pss_one (ps_ret (pv 1)))))), ?_⟩
    refine fun D nD => ?_
    have s0 := same_new (o := .dK []) (Same.refl H) nD
    refine ⟨rfl, fun H1 N s1 nN hN => ?_⟩
    refine ⟨_, rfl, c, 14, 60, rfl, by decide, by decide, by decide, fun H2 R ds s2 nR hR hl hd => ?_⟩
    have sm2 : Same H H2 := (s0.trans s1).trans s2
    have hD2 : H2 D = some (.dK []) := s2 _ _ (s1 _ _ upd_same)
    have hN2 := s2 _ _ hN
    have nND : N ≠ D := fun z => by rw [z, upd_same] at nN; cases nN
    have nRD : R ≠ D := fun z => by rw [z, s1 _ _ upd_same] at nR; cases nR
    refine ⟨fun σ H' => ∃ v4 v5 f, σ = [some (.int c), some (.ref D), some (.ref N), some (.ref R), v4, v5] ∧ H' D = some (.dK (tabS ENT f)) ∧ (∀ e ∈ ENT, f e ∈ chs e) ∧ (∀ b o, b ≠ D → H2 b = some o → H' b = some o), ?_, ?_⟩
    · refine ⟨14, rfl, by decide, by decide, for_range (lo := 0) (n := 14) (fun i σ H' => ∃ v4 v5 f, σ = [some (.int c), some (.ref D), some (.ref N), some (.ref R), v4, v5] ∧ H' D = some (.dK (tabS (ENT.take i) f)) ∧ (∀ e ∈ ENT.take i, f e ∈ chs e) ∧ (∀ b o, b ≠ D → H2 b = some o → H' b = some o))
        ⟨none, none, fun _ => "", rfl, hD2, (fun e h => by cases h), fun b o _ z => z⟩ ?_ ?_⟩
      · rintro i σ H3 hi ⟨v4, v5, f, rfl, hD3, hf, b3⟩
        have hi' : i < ENT.length := hi
        have hN3 := b3 _ _ nND hN2
        have hR3 := b3 _ _ nRD hR
        obtain ⟨d, hd'⟩ : ∃ d, ds[i]? = some d := ⟨ds[i]'(by omega), List.getElem?_eq_getElem (by omega)⟩
        have d0 := hd d (List.mem_of_getElem? hd')
        have eN : atI (ENT.map V.str) (0 + (i : Int)) = some (.str ENT[i]) := by
          rw [Int.zero_add]
          exact atI_nat (by rw [List.getElem?_map, List.getElem?_eq_getElem hi']; rfl)
        have eR : atI (ds.map V.int) (0 + (i : Int)) = some (.int d) := by
          rw [Int.zero_add]
          exact atI_nat (by rw [List.getElem?_map, hd']; rfl)
        refine ⟨_, rfl, _, rfl, N, _, _, _, rfl, rfl, SqL.of hN3, eN, _, rfl, fun H4 P s4 nP hP => ?_⟩
        have cl := chs_len ENT[i]
        have posn : (0 : Int) < (((chs ENT[i]).map V.str).length : Nat) := by rw [List.length_map]; omega
        refine ⟨_, rfl, _, rfl, _, rfl, R, _, _, _, rfl, rfl, SqL.of (s4 _ _ hR3), eR, .inl ⟨_, rfl, _, rfl, P, _, rfl, .inl (SqL.of hP), _, _, rfl, rfl, posn, ?_⟩⟩
        have m0 := Int.emod_nonneg d (Int.ne_of_gt posn)
        have m1 := Int.emod_lt_of_pos d posn
        obtain ⟨j, hj⟩ := Int.eq_ofNat_of_zero_le m0
        have hj2 : j < (chs ENT[i]).length := by rw [hj, List.length_map] at m1; omega
        have eA : atI ((chs ENT[i]).map V.str) (d % (((chs ENT[i]).map V.str).length : Nat)) = some (.str (chs ENT[i])[j]) := by
          rw [hj]
          exact atI_nat (by rw [List.getElem?_map, List.getElem?_eq_getElem hj2]; rfl)
        refine ⟨P, _, _, _, rfl, rfl, SqL.of hP, eA, _, rfl, _, rfl, _, rfl, N, _, _, _, rfl, rfl, SqL.of (s4 _ _ hN3), eN, D, _, rfl, DPut.k (k := Sum.inr ENT[i]) (s4 _ _ hD3) (by rw [tab_len, List.length_take]; exact small1000 (by rw [ent_len]; omega)), ?_⟩
        have hn : ENT[i] ∉ ENT.take i := fun z => by
          obtain ⟨jj, hjj, ej⟩ := List.mem_iff_getElem.mp z
          rw [List.length_take] at hjj
          rw [List.getElem_take] at ej
          exact (List.pairwise_iff_getElem.mp ent_nodup) jj i (by omega) hi' (by omega) ej
        have et : ENT.take (i + 1) = ENT.take i ++ [ENT[i]] := by rw [List.take_add_one, List.getElem?_eq_getElem hi'] <;> rfl
        refine ⟨_, _, put f ENT[i] (chs ENT[i])[j], rfl, ?_, fun e he => ?_, fun b o hb z => ?_⟩
        · rw [upd_same, put_new (g := V.str) hn, et]
        · rw [et] at he
          by_cases q : e = ENT[i]
          · rw [q, put_same]
            exact List.getElem_mem hj2
          · rw [put_ne q]
            rcases List.mem_append.mp he with he | he
            · exact hf e he
            · exact absurd (List.mem_singleton.mp he) q
        · rw [upd_ne hb]
          exact s4 _ _ (b3 b o hb z)
      · rintro σ H3 ⟨v4, v5, f, rfl, hD3, hf, b3⟩
        exact ⟨_, _, f, rfl, hD3, hf, b3⟩
    rintro σ H3 ⟨v4, v5, f, rfl, hD3, hf, b3⟩
    exact ⟨_, rfl, k H3 D f (fun b o z => b3 b o (ne_of_none z nD) (sm2 b o z)) nD hD3 hf⟩
end
end K06

namespace K06
open PySem L2 SI CM BK OWN SO EX
section
variable {w : World} {K : PySem.W.Frag} {mg : Str → Option Value} {base : Heap} (T : Txt w K mg)
def spOne : Sp := fun vs H Q _ => ∃ c k b : Int, vs = [.int c, .int k, .int b] ∧ 0 < b ∧ b < 1000 ∧ ∀ H' d, Same H H' → 0 ≤ d → d < b → Q (.int d) H'
theorem ok_one : FnOk PP w K mg base CX0 2 T.f_law_one T.d_law_one ["_law_cell_here", "_law_k", "_law_base"] spOne := by
  refine T.F_law_one.ok sc_law_one (fun vs H Q E h => ?_) (fun cdv A outer s H vs Q E hr h => ?_)
  · obtain ⟨c, kk, b, rfl, _⟩ := h
    rfl
  · obtain ⟨c, kk, b, rfl, b0, b1, k⟩ := h
    refine ⟨_, pss_cons (ps_if (pt_cmpR op_ge (pv 0) (pe_op op_pow pe_int pe_int) (nomark _))
 (pss_one (ps_ret (pe_op op_mod (pe_callTy call_int1 (by rfl) T.n_int (by decide +kernel) (pa_cons (pv 0) pa_nil)) (pv 2))))
 pss_nil)
 (pss_one (ps_ret (pe_ix ix_list (pe_call (ok_row T) (hr.mono (by decide)) (by rfl) T.g_law_row T.F_law_row.kp (b_law_row T) .nil pass0 (pa_cons (pe_op op_add (pe_op op_mul (pv 0) pe_int) (pv 1)) (pa_cons pe_int (pa_cons (pv 2) pa_nil)))) pe_int (fun _ _ => rfl)))), ?_⟩
    refine ⟨_, rfl, _, _, rfl, rfl, ⟨by decide, by decide, by decide⟩, _, _, rfl, rfl, _, rfl, ?_⟩
    refine ite2 (fun _ => ?_) (fun _ => ?_)
    · exact ⟨_, rfl, .inl ⟨_, rfl, _, rfl, _, _, rfl, rfl, b0, k _ _ (Same.refl _) (Int.emod_nonneg _ (Int.ne_of_gt b0)) (Int.emod_lt_of_pos _ b0)⟩⟩
    · refine ⟨_, rfl, _, _, rfl, rfl, .inr ⟨by decide, by decide⟩, _, rfl, _, _, rfl, rfl, _, rfl, _, 1, b, rfl, b0, b1, by decide, fun H1 p ds s1 np hp hl hd => ?_⟩
      obtain ⟨d, rfl⟩ : ∃ d, ds = [d] := by
        match ds, hl with
        | [d], _ => exact ⟨d, rfl⟩
      have hd' := hd d (List.mem_singleton.mpr rfl)
      exact ⟨p, _, _, _, rfl, rfl, SqL.of hp, rfl, k _ _ s1 hd'.1 hd'.2⟩
end
end K06

namespace K06
open PySem L2 SI CM BK OWN SO EX
section
variable {w : World} {K : PySem.W.Frag} {mg : Str → Option Value} {base : Heap} (T : Txt w K mg)
def setM (x a : Str) : Str := if x ∉ ENT then "entry" else if a ∉ chs x then "answer" else "set"
def spLSet (C : Addr) : Sp := fun vs H Q _ => ∃ b dx d f e k x a, vs = [.ref b, .str x, .str a] ∧ Bk C H b dx d f e k ∧
  ∀ H', (∀ p o, p ≠ d → H p = some o → H' p = some o) → (H' d = some (.dK (tabS ENT (if setM x a = "set" then put f x a else f)))) → Q (.str (setM x a)) H'
theorem ok_lset : FnOk PP w K mg base CX0 8 T.f_law_set T.d_law_set ["_law_book", "_law_name", "_law_answer"] (spLSet T.c_Book) := by
  refine T.F_law_set.ok sc_law_set (fun vs H Q E h => ?_) (fun cdv A outer s H vs Q E hr h => ?_)
  · obtain ⟨b, dx, d, f, e, k, x, a, rfl, _⟩ := h
    rfl
  · obtain ⟨b, dx, d, f, e, k, x, a, rfl, B, q⟩ := h
    have hr7 : Room 7 _ := hr.mono (by decide)
    refine ⟨_, pss_cons (TA.ps_try_as2 (i := 3) (Wout := fun _ _ _ _ => False) rfl rfl sc_law_set.nd rfl rfl ⟨rfl, by decide, Or.inl T.g_BadEntry⟩ ⟨rfl, by decide, Or.inl T.g_BadAnswer⟩ takes0
        (fun W pn xe tk _ => pss_one (ps_setO T.m_Book_setitem T.nd_Book (ownF (ok_setitem T) (b_Book_setitem T)) (hr7.mono (by decide)) (fun σ => passAt tk σ) (pv 0) (pv 1) (pv 2) rfl))
        (fun a oe cls d pn hz hf => pss_cons (ps_if (PW.pt (pw_and (pt_val (pe_callB (id := "isinstance") (r := rIsE K a cls d) (call_isE hz hf) (by rfl) T.n_isinstance (by decide +kernel) (pa_cons (pv 3) (pa_cons (pe_glob (v := .ref T.c_StampError) (by rfl) T.g_StampError rfl) pa_nil))))
            (pw_and1 (pt_cmpR op_eq (pe_xf T.xfc_BadEntry T.na_BadEntry_entry hz hf (pv 3)) (pv 1) (nomark _))))) (pss_one (ps_ret pe_str)) pss_nil) (pss_one (ps_ret pe_str)))
        (fun a oe cls d pn hz hf => pss_cons (ps_if (PW.pt (pw_and (pt_val (pe_callB (id := "isinstance") (r := rIsE K a cls d) (call_isE hz hf) (by rfl) T.n_isinstance (by decide +kernel) (pa_cons (pv 3) (pa_cons (pe_glob (v := .ref T.c_StampError) (by rfl) T.g_StampError rfl) pa_nil))))
            (pw_and (pt_cmpR op_eq (pe_xf T.xfc_BadAnswer T.na_BadAnswer_entry hz hf (pv 3)) (pv 1) (nomark _)) (pw_and1 (pt_cmpR op_eq (pe_xf T.xfc_BadAnswer T.na_BadAnswer_answer hz hf (pv 3)) (pv 2) (nomark _)))))) (pss_one (ps_ret pe_str)) pss_nil) (pss_one (ps_ret pe_str))))
      (pss_one (ps_ret pe_str)), ?_⟩
    refine ⟨_, rfl, _, rfl, _, rfl, b, dx, _, rfl, B.ins, b, dx, d, f, e, k, .str x, .str a, rfl, B, rfl, rfl, ⟨fun x' a' hx ha hxE hac => ?_, fun hn xd nx => ?_, fun x' hx hxE hna xd nx => ?_⟩⟩
    · cases hx
      cases ha
      have e0 : setM x a = "set" := (if_neg (fun z => z hxE)).trans (if_neg (fun z => z hac))
      have q := q (upd H d (.dK (tabS ENT (put f x a)))) (fun p o hp z => by rw [upd_ne hp]; exact z) (by rw [if_pos e0]; exact upd_same)
      rw [e0] at q
      exact q
    · have hxn : x ∉ ENT := fun z => hn ⟨x, rfl, z⟩
      have e0 : setM x a = "entry" := if_pos hxn
      have n0 : ¬ (("entry" : Str) = "set") := by decide +kernel
      have q := q (upd H xd (.xd [("entry", .str x)])) (fun p o hp z => by rw [upd_ne (ne_of_none z nx)]; exact z) (by rw [e0, if_neg n0, upd_ne (ne_of_none B.tbl nx)]; exact B.tbl)
      rw [e0] at q
      refine ⟨true, T.exm_BadEntry_BadEntry, fun _ ea ha => ?_, fun z => by cases z⟩
      refine ⟨_, rfl, _, T.excc_BadEntry, _, _, true, xd, _, rfl, rfl, rfl, ClsV.own _, T.kit_BadEntry_StampError, upd_same, _, rfl, ?_⟩
      refine iteT ⟨_, rfl, rfl, rfl, xd, _, .str x, rfl, upd_same, rfl, _, rfl, rfl, _, rfl, ?_⟩
      rw [decide_eq_true (rfl : V.str x = V.str x)]
      exact iteT q
    · cases hx
      have hac : a ∉ chs x := fun z => hna ⟨a, rfl, z⟩
      have e0 : setM x a = "answer" := (if_neg (fun z => z hxE)).trans (if_pos hac)
      have n0 : ¬ (("answer" : Str) = "set") := by decide +kernel
      have q := q (upd H xd (.xd [("answer", .str a), ("entry", .str x)])) (fun p o hp z => by rw [upd_ne (ne_of_none z nx)]; exact z) (by rw [e0, if_neg n0, upd_ne (ne_of_none B.tbl nx)]; exact B.tbl)
      rw [e0] at q
      refine ⟨false, T.exm_BadAnswer_BadEntry, (fun z => by cases z), fun _ => ⟨true, T.exm_BadAnswer_BadAnswer, fun _ ea ha => ?_, fun z => by cases z⟩⟩
      refine ⟨_, rfl, _, T.excc_BadAnswer, _, _, true, xd, _, rfl, rfl, rfl, ClsV.own _, T.kit_BadAnswer_StampError, upd_same, _, rfl, ?_⟩
      refine iteT ⟨_, rfl, rfl, rfl, xd, _, .str x, rfl, upd_same, rfl, _, rfl, rfl, _, rfl, ?_⟩
      rw [decide_eq_true (rfl : V.str x = V.str x)]
      refine iteT ⟨_, rfl, rfl, rfl, xd, _, .str a, rfl, upd_same, rfl, _, rfl, rfl, _, rfl, ?_⟩
      rw [decide_eq_true (rfl : V.str a = V.str a)]
      exact iteT q
def spUnk (C : Addr) : Sp := fun vs H Q _ => ∃ b dx d f e k x, vs = [.ref b, .str x] ∧ Bk C H b dx d f e k ∧ x ∉ ENT ∧ ∀ H', Same H H' → Q (.bl true) H'
theorem ok_unknown : FnOk PP w K mg base CX0 6 T.f_law_unknown T.d_law_unknown ["_law_book", "_law_name"] (spUnk T.c_Book) := by
  refine T.F_law_unknown.ok sc_law_unknown (fun vs H Q E h => ?_) (fun cdv A outer s H vs Q E hr h => ?_)
  · obtain ⟨b, dx, d, f, e, k, x, rfl, _⟩ := h
    rfl
  · obtain ⟨b, dx, d, f, e, k, x, rfl, B, hx, q⟩ := h
    have hr5 : Room 5 _ := hr.mono (by decide)
    refine ⟨_, pss_cons (ps_try_as (i := 3) (Wout := fun _ _ _ _ => False) rfl rfl sc_law_unknown.nd rfl rfl ⟨rfl, by decide, Or.inl T.g_BadEntry⟩ takes0
        (fun W pn xe tk _ => pss_one (ps_set (i := 2) sc_law_unknown.nd rfl (.inl rfl) (pe_ixO T.m_Book_getitem T.fi_Book_getitem (ownF (ok_get T) (b_Book_getitem T)) hr5 (fun σ => passAt tk σ) (pv 0) (pv 1) (fun _ _ => rfl))))
        (fun a oe cls d pn hz hf => pss_one (ps_ret (pe_cmpR op_eq (pe_xf T.xfc_BadEntry T.na_BadEntry_entry hz hf (pv 3)) (pv 1) (nomark _)))))
      pss_never, ?_⟩
    refine ⟨_, rfl, _, rfl, b, dx, _, rfl, B.ins, b, dx, d, f, e, k, .str x, rfl, B, rfl, fun x' hx' hE => absurd hE (by cases hx'; exact hx), fun hn xd nx => ?_⟩
    have q := q _ (same_new (o := .xd [("entry", .str x)]) (Same.refl H) nx)
    refine ⟨true, T.exm_BadEntry_BadEntry, fun _ ea ha => ?_, fun z => by cases z⟩
    refine ⟨_, rfl, rfl, rfl, xd, _, .str x, rfl, upd_same, rfl, _, rfl, rfl, ?_⟩
    rw [decide_eq_true (rfl : V.str x = V.str x)]
    exact q
end
end K06

namespace K06
open PySem L2 SI CM BK OWN SO EX
section
variable {w : World} {K : PySem.W.Frag} {mg : Str → Option Value} {base : Heap} (T : Txt w K mg)
abbrev WRD : List Str := ENT ++ (["read free", "write own", "write  late", "passed"] : List Str)
abbrev ANW : List Str := ["last", "old", "open", "put", "skip", "wait", "wound", "abort", "break"]
theorem at_modV {L : List V} {n : Nat} (h : L.length = n) (hn : 0 < n) (x : Int) : ∃ v, v ∈ L ∧ atI L (x % (n : Int)) = some v := by
  have p : (0 : Int) < (n : Int) := by omega
  have m0 := Int.emod_nonneg x (Int.ne_of_gt p)
  have m1 := Int.emod_lt_of_pos x p
  obtain ⟨j, hj⟩ := Int.eq_ofNat_of_zero_le m0
  have hj2 : j < L.length := by omega
  exact ⟨L[j], List.getElem_mem hj2, by rw [hj]; exact atI_nat (List.getElem?_eq_getElem hj2)⟩
theorem sq_but {K : PySem.W.Frag} {H H' : Hp} {a D : Addr} {xs : List V} (h : SqL K H a xs) (n : H D = none) (k : ∀ b o, b ≠ D → H b = some o → H' b = some o) : SqL K H' a xs := by
  rcases h with (h | ⟨o, h⟩) | h
  · exact .inl (.inl (k _ _ (ne_of_none h n) h))
  · exact .inl (.inr ⟨o, k _ _ (ne_of_none h n) h⟩)
  · exact .inr h
def spLaw (K : PySem.W.Frag) : Sp := fun vs H Q _ => ∃ (a : Addr) (ns : List Int), vs = [.ref a] ∧ SqL K H a (ns.map V.int) ∧ ns.length ≤ 63 ∧ ∀ H', Q (.bl true) H'
theorem ok_law : FnOk PP w K mg base CX0 12 T.f_law T.d_law ["_law_script"] (spLaw K) := by
  refine T.F_law.ok sc_law (fun vs H Q E h => ?_) (fun cdv A outer s H vs Q E hr h => ?_)
  · obtain ⟨a, ns, rfl, _⟩ := h
    rfl
  · obtain ⟨a, ns, rfl, hS, hlen, k⟩ := h
    obtain ⟨g_kbE, hkbE⟩ := kbE T
    obtain ⟨g_kb1, r_kb1, hkb1⟩ := kb1 T
    refine ⟨_, pss_cons (ps_set (i := 1) sc_law.nd rfl (.inl rfl) (pe_call0 (ok_entries T) (hr.mono (by decide)) (by rfl) T.g_law_entries T.F_law_entries.kp (b_law_entries T) .nil pass0))
 (C8.pss_cut (ps_set (i := 2) sc_law.nd rfl (.inl rfl) (pe_op op_cat (pv 1) (pe_lst (pa_cons pe_str (pa_cons pe_str (pa_cons pe_str (pa_cons pe_str pa_nil)))))))
 (C8.pss_cut (ps_set (i := 3) sc_law.nd rfl (.inl rfl) (pe_lst (pa_cons pe_str (pa_cons pe_str (pa_cons pe_str (pa_cons pe_str (pa_cons pe_str (pa_cons pe_str (pa_cons pe_str (pa_cons pe_str (pa_cons pe_str pa_nil)))))))))))
 (pss_cons (ps_set (i := 4) sc_law.nd rfl (.inl rfl) (pe_lst (pa_cons (pe_call (ok_table T) (hr.mono (by decide)) (by rfl) T.g_law_table T.F_law_table.kp (b_law_table T) .nil pass0 (pa_cons (pe_call (ok_cell T) (hr.mono (by decide)) (by rfl) T.g_law_cell T.F_law_cell.kp (b_law_cell T) .nil pass0 (pa_cons (pv 0) (pa_cons pe_int pa_nil))) pa_nil)) (pa_cons (pe_call (ok_table T) (hr.mono (by decide)) (by rfl) T.g_law_table T.F_law_table.kp (b_law_table T) .nil pass0 (pa_cons (pe_call (ok_cell T) (hr.mono (by decide)) (by rfl) T.g_law_cell T.F_law_cell.kp (b_law_cell T) .nil pass0 (pa_cons (pv 0) (pa_cons pe_int pa_nil))) pa_nil)) pa_nil))))
 (C8.pss_cut (ps_set (i := 5) sc_law.nd rfl (.inl rfl) (pe_lst (pa_cons (pe_make T.mk_Book (ok_Book_init T) (hr.mono (by decide)) (by rfl) T.g_Book hkb1 r_kb1 passL (pa_cons (pe_ix ix_list (pv 4) pe_int (fun _ _ => rfl)) pa_nil)) (pa_cons (pe_makeK (n := 1) T.mk_Book (ok_Book_init T) (hr.mono (by decide)) (by rfl) T.g_Book hkbE passL (pa_cons (pe_callTy call_dictD (by rfl) T.n_dict (by decide +kernel) (pa_cons (pe_ix ix_list (pv 4) pe_int (fun _ _ => rfl)) pa_nil)) pa_nil) (pk_cons pe_str pk_nil)) pa_nil))))
 (pss_cons (ps_set (i := 6) sc_law.nd rfl (.inl rfl) (pe_callTy call_dictD (by rfl) T.n_dict (by decide +kernel) (pa_cons (pe_ix ix_list (pv 4) pe_int (fun _ _ => rfl)) pa_nil)))
 (pss_cons (ps_set (i := 7) sc_law.nd rfl (.inl rfl) (pe_meth0 (pe_ix ix_list (pv 5) pe_int (fun _ _ => rfl)) T.cl_Book T.m_Book_copy (ok_copy T) (hr.mono (by decide)) (b_Book_copy T) .nil pass0))
 (pss_cons (ps_set (i := 8) sc_law.nd rfl (.inl rfl) (pe_op op_mul (pe_op op_mul pe_int pe_int) pe_int))
 (C8.pss_cut (ps_set (i := 9) sc_law.nd rfl (.inl rfl) (pe_call (ok_row T) (hr.mono (by decide)) (by rfl) T.g_law_row T.F_law_row.kp (b_law_row T) .nil pass0 (pa_cons (pe_call (ok_cell T) (hr.mono (by decide)) (by rfl) T.g_law_cell T.F_law_cell.kp (b_law_cell T) .nil pass0 (pa_cons (pv 0) (pa_cons pe_int pa_nil))) (pa_cons (pe_op op_mod (pe_callTy call_int1 (by rfl) T.n_int (by decide +kernel) (pa_cons (pe_op op_add (pe_call (ok_cell T) (hr.mono (by decide)) (by rfl) T.g_law_cell T.F_law_cell.kp (b_law_cell T) .nil pass0 (pa_cons (pv 0) (pa_cons pe_int pa_nil))) pe_int) pa_nil)) pe_int) (pa_cons (pv 8) pa_nil)))))
 (C8.pss_cut (ps_for PassesOwn.never rfl (pi_range2 rfl T.n_range (pa_cons pe_int (pa_cons (pe_callB call_len_seq (by rfl) T.n_len PySem.boot_len (pa_cons (pv 0) pa_nil)) pa_nil))) (pg_name (i := 10) sc_law.nd rfl (.inl rfl))
 (pss_one (ps_expr (pe_bm PySem.F.plainAttrs_list PySem.F.slot_list_append PySem.F.type_list_append mt_append (pv 9) (pa_cons (pe_call (ok_one T) (hr.mono (by decide)) (by rfl) T.g_law_one T.F_law_one.kp (b_law_one T) .nil pass0 (pa_cons (pe_ix ix_list (pv 0) (pv 10) (fun _ _ => rfl)) (pa_cons (pv 10) (pa_cons (pv 8) pa_nil)))) pa_nil)))))
 (C8.pss_cut (ps_for PassesOwn.never rfl (pi_list (pv 9)) (pg_name (i := 11) sc_law.nd rfl (.inl rfl))
 (pss_cons (ps_set (i := 12) sc_law.nd rfl (.inl rfl) (pe_op op_mod (pe_callTy call_int1 (by rfl) T.n_int (by decide +kernel) (pa_cons (pv 11) pa_nil)) pe_int))
 (pss_cons (ps_set (i := 13) sc_law.nd rfl (.inl rfl) (pe_ix ix_list (pv 2) (pe_op op_mod (pe_callTy call_int1 (by rfl) T.n_int (by decide +kernel) (pa_cons (pe_op op_fdiv (pv 11) pe_int) pa_nil)) pe_int) (fun _ _ => rfl)))
 (pss_cons (ps_set (i := 14) sc_law.nd rfl (.inl rfl) (pe_ix ix_list (pv 3) (pe_op op_mod (pe_callTy call_int1 (by rfl) T.n_int (by decide +kernel) (pa_cons (pe_op op_fdiv (pv 11) pe_int) pa_nil)) pe_int) (fun _ _ => rfl)))
 (pss_cons (ps_set (i := 15) sc_law.nd rfl (.inl rfl) pe_str)
 (C8.pss_cut (ps_if (pt_cmpR op_notIn_seq (pv 13) (pv 1) rfl)
 (pss_one (ps_set (i := 15) sc_law.nd rfl (.inl rfl) pe_str))
 (pss_one (ps_if (pt_cmpR op_notIn_seq (pv 14) (pe_call (ok_choices T) (hr.mono (by decide)) (by rfl) T.g_law_choices T.F_law_choices.kp (b_law_choices T) .nil pass0 (pa_cons (pv 13) pa_nil)) rfl)
 (pss_one (ps_set (i := 15) sc_law.nd rfl (.inl rfl) pe_str))
 pss_nil)))
 (pss_cons (ps_if (pt_cmpR op_ne (pe_call (ok_lset T) (hr.mono (by decide)) (by rfl) T.g_law_set T.F_law_set.kp (b_law_set T) .nil pass0 (pa_cons (pe_ix ix_list (pv 5) (pv 12) (fun _ _ => rfl)) (pa_cons (pv 13) (pa_cons (pv 14) pa_nil)))) (pv 15) (nomark _))
 (pss_one (ps_ret pe_bl))
 pss_nil)
 (pss_cons (ps_if (pt_cmpR op_eq (pv 15) pe_str (nomark _))
 (pss_one (ps_dput (hu_of hr) (pe_ix ix_list (pv 4) (pv 12) (fun _ _ => rfl)) (pv 13) (pv 14) rfl))
 pss_nil)
 (pss_one (ps_if (pt_cmpR op_eq (pv 15) pe_str (nomark _))
 (pss_one (ps_if (pt_not (pt_val (pe_call (ok_unknown T) (hr.mono (by decide)) (by rfl) T.g_law_unknown T.F_law_unknown.kp (b_law_unknown T) .nil pass0 (pa_cons (pe_ix ix_list (pv 5) (pv 12) (fun _ _ => rfl)) (pa_cons (pv 13) pa_nil)))))
 (pss_one (ps_ret pe_bl))
 pss_nil))
 (pss_one (ps_if (pt_cmpR op_ne (pe_ixO T.m_Book_getitem T.fi_Book_getitem (ownF (ok_get T) (b_Book_getitem T)) (hr.mono (by decide)) (fun σ => passAll passL σ) (pe_ix ix_list (pv 5) (pv 12) (fun _ _ => rfl)) (pv 13) (fun _ _ => rfl)) (pe_dget (hu_of hr) (pe_ix ix_list (pv 4) (pv 12) (fun _ _ => rfl)) (pv 13) (fun _ _ => rfl)) (nomark _))
 (pss_one (ps_ret pe_bl))
 pss_nil))))))))))))
 (C8.pss_cut (ps_for PassesOwn.never rfl (pi_list (pv 1)) (pg_name (i := 13) sc_law.nd rfl (.inl rfl))
 (pss_cons (ps_if (PW.pt (pw_or (pt_cmpR op_ne (pe_ixO T.m_Book_getitem T.fi_Book_getitem (ownF (ok_get T) (b_Book_getitem T)) (hr.mono (by decide)) (fun σ => passAll passL σ) (pe_ix ix_list (pv 5) pe_int (fun _ _ => rfl)) (pv 13) (fun _ _ => rfl)) (pe_dget (hu_of hr) (pe_ix ix_list (pv 4) pe_int (fun _ _ => rfl)) (pv 13) (fun _ _ => rfl)) (nomark _)) (pw_or1 (pt_cmpR op_ne (pe_ixO T.m_Book_getitem T.fi_Book_getitem (ownF (ok_get T) (b_Book_getitem T)) (hr.mono (by decide)) (fun σ => passAll passL σ) (pe_ix ix_list (pv 5) pe_int (fun _ _ => rfl)) (pv 13) (fun _ _ => rfl)) (pe_dget (hu_of hr) (pe_ix ix_list (pv 4) pe_int (fun _ _ => rfl)) (pv 13) (fun _ _ => rfl)) (nomark _)))))
 (pss_one (ps_ret pe_bl))
 pss_nil)
 (pss_one (ps_if (pt_cmpR op_ne (pe_ixO T.m_Book_getitem T.fi_Book_getitem (ownF (ok_get T) (b_Book_getitem T)) (hr.mono (by decide)) (fun σ => passAll passL σ) (pv 7) (pv 13) (fun _ _ => rfl)) (pe_dget (hu_of hr) (pv 6) (pv 13) (fun _ _ => rfl)) (nomark _))
 (pss_one (ps_ret pe_bl))
 pss_nil))))
 (pss_one (ps_ret pe_bl))))))))))))), ?_⟩
    have two : 2 ≤ sizeLine := by decide
    have four : 4 ≤ sizeLine := by decide
    have nine : 9 ≤ sizeLine := by decide
    have ul0 : ∀ {x y : V}, atI [x, y] 0 = some x := rfl
    have ul1 : ∀ {x y : V}, atI [x, y] 1 = some y := rfl
    refine ⟨rfl, fun H1 N s1 nN hN => ?_⟩
    refine ⟨fun σ H' => ∃ W, σ = [some (.ref a), some (.ref N), some (.ref W), none, none, none, none, none, none, none, none, none, none, none, none, none] ∧ H' W = some (.lst (WRD.map V.str)) ∧ Same H1 H', ?_, ?_⟩
    · refine ⟨_, rfl, four, fun L nL => ⟨N, L, _, _, rfl, rfl, kp nL hN, upd_same, (by decide : 14 + 4 ≤ sizeLine), fun W nW => ?_⟩⟩
      exact ⟨W, rfl, upd_same, same_new (same_new (Same.refl H1) nL) nW⟩
    rintro σ H2 ⟨W, rfl, hW, s12⟩
    refine ⟨fun σ H' => ∃ AL, σ = [some (.ref a), some (.ref N), some (.ref W), some (.ref AL), none, none, none, none, none, none, none, none, none, none, none, none] ∧ H' AL = some (.lst (ANW.map V.str)) ∧ Same H2 H', ?_, ?_⟩
    · exact ⟨nine, fun AL nA => ⟨AL, rfl, upd_same, same_new (Same.refl H2) nA⟩⟩
    rintro σ H3 ⟨AL, rfl, hA, s23⟩
    have s3 := (s1.trans s12).trans s23
    have hN := s23 _ _ (s12 _ _ hN)
    have hW := s23 _ _ hW
    refine ⟨_, rfl, a, ns, 0, rfl, s3.seq hS, hlen, _, rfl, fun Ha t0 f0 sa nt0 ht0 hf0 => ⟨_, rfl, a, ns, 1, rfl, (s3.trans sa).seq hS, hlen, _, rfl, fun Hb t1 f1 sb nt1 ht1 hf1 => ⟨two, fun TL nTL => ?_⟩⟩⟩
    have sc1 := same_new (o := .lst [.ref t0, .ref t1]) (Same.refl Hb) nTL
    have t01 : t0 ≠ t1 := ne_of_none ht0 nt1
    have ht0 := sc1 _ _ (sb _ _ ht0)
    have ht1 := sc1 _ _ ht1
    have hTL : (upd Hb TL (.lst [.ref t0, .ref t1])) TL = some (.lst [.ref t0, .ref t1]) := upd_same
    have sC := (sa.trans sb).trans sc1
    have ft0 := s3.free nt0
    have ft1 := (s3.trans sa).free nt1
    generalize upd Hb TL (.lst [.ref t0, .ref t1]) = Hc at ht0 ht1 hTL sC ⊢
    refine ⟨fun σ H' => ∃ BL b0 dx0 d0 b1 dx1 d1, σ = [some (.ref a), some (.ref N), some (.ref W), some (.ref AL), some (.ref TL), some (.ref BL), none, none, none, none, none, none, none, none, none, none] ∧ Same Hc H' ∧ H' BL = some (.lst [.ref b0, .ref b1]) ∧ Bk T.c_Book H' b0 dx0 d0 f0 "now" 1 ∧ Bk T.c_Book H' b1 dx1 d1 f1 "after" 1 ∧ Hc d0 = none ∧ Hc d1 = none ∧ d0 ≠ d1 ∧ b0 ≠ b1, ?_, ?_⟩
    · refine ⟨_, rfl, TL, _, _, _, rfl, rfl, SqL.of hTL, ul0, ?_⟩
      refine fun b0 dx0 nb0 ndx0 _ => mk_book (gv := ENT.map fun e => (e, V.str (f0 e))) (.inr ⟨t0, rfl, by rw [← tabS_prs]; exact ht0⟩) (.inl rfl) rfl (ok_tab hf0) nb0 ndx0 fun Hd d0 s4 nd0 B0 => ⟨rfl, ?_⟩
      have B0 := Bk.congr B0 (f' := f0) fun x hx => by rw [fill_tab ent_nodup, if_pos hx]
      refine ⟨_, rfl, TL, _, _, _, rfl, rfl, SqL.of (s4 _ _ hTL), ul1, ?_⟩
      dsimp only [tNil]
      refine ⟨t1, tabS ENT f1, rfl, .inl (s4 _ _ ht1), fun Z nZ => ⟨rfl, rfl, ?_⟩⟩
      refine fun b1 dx1 nb1 ndx1 _ => mk_book (gv := ENT.map fun e => (e, V.str (f1 e))) (.inr ⟨Z, rfl, by rw [← tabS_prs]; exact upd_same⟩) (.inr rfl) rfl (ok_tab hf1) nb1 ndx1 fun He d1 s5 nd1 B1 => ⟨rfl, ?_⟩
      have B1 := Bk.congr B1 (f' := f1) fun x hx => by rw [fill_tab ent_nodup, if_pos hx]
      have s45 := (same_new (o := .dK (tabS ENT f1)) (Same.refl Hd) nZ).trans s5
      refine ⟨two, fun BL nBL => ?_⟩
      have s6 := same_new (o := .lst [.ref b0, .ref b1]) (Same.refl He) nBL
      have e1 : d0 ≠ d1 := ne_of_none (kp nZ B0.tbl) nd1
      have e2 : b0 ≠ b1 := ne_of_none (kp nZ B0.ins) nb1
      have fz := (same_new (o := .dK (tabS ENT f1)) s4 nZ)
      exact ⟨BL, b0, dx0, d0, b1, dx1, d1, rfl, (s4.trans s45).trans s6, upd_same, B0.same (s45.trans s6), B1.same s6, nd0, fz.free nd1, e1, e2⟩
    rintro σ H4 ⟨BL, b0, dx0, d0, b1, dx1, d1, rfl, sC4, hBL, B0, B1, fd0, fd1, d01, b01⟩
    have ht0 := sC4 _ _ ht0
    have ht1 := sC4 _ _ ht1
    have hTL := sC4 _ _ hTL
    have s4 := (s3.trans sC).trans sC4
    have hN := sC4 _ _ (sC _ _ hN)
    have hW := sC4 _ _ (sC _ _ hW)
    have hA := sC4 _ _ (sC _ _ hA)
    -- the first table and the twin
    refine ⟨_, rfl, TL, _, _, _, rfl, rfl, SqL.of hTL, ul0, ?_⟩
    dsimp only [tNil]
    refine ⟨t0, tabS ENT f0, rfl, .inl ht0, fun FT nFT => ?_⟩
    have s5 := same_new (o := .dK (tabS ENT f0)) (Same.refl H4) nFT
    have hFT : (upd H4 FT (.dK (tabS ENT f0))) FT = some (.dK (tabS ENT f0)) := upd_same
    generalize upd H4 FT (.dK (tabS ENT f0)) = H5 at s5 hFT ⊢
    refine ⟨_, rfl, BL, _, _, _, rfl, rfl, SqL.of (s5 _ _ hBL), ul0, b0, dx0, _, rfl, (B0.same s5).ins, rfl, b0, dx0, d0, _, _, _, rfl, B0.same s5, ⟨.inl rfl, rfl, hf0⟩, fun H6 tw dxt dt s56 ntw ndt Bt => ?_⟩
    refine ⟨_, _, rfl, rfl, .inr ⟨by decide, by decide⟩, _, _, rfl, rfl, .inr ⟨by decide, by decide⟩, ?_⟩
    -- the draws
    have p25 : (0 : Int) < 25 := by decide
    have p324 : (0 : Int) < 324 := by decide
    have s6 := (s4.trans s5).trans s56
    refine ⟨fun σ H' => ∃ (D : Addr) (ds : List Int), σ = [some (.ref a), some (.ref N), some (.ref W), some (.ref AL), some (.ref TL), some (.ref BL), some (.ref FT), some (.ref tw), some (.int 324), some (.ref D), none, none, none, none, none, none] ∧ H' D = some (.lst (ds.map V.int)) ∧ H6 D = none ∧ Same H6 H' ∧ (∀ d ∈ ds, (0 : Int) ≤ d ∧ d < 324) ∧ ds.length ≤ 24, ?_, ?_⟩
    · refine ⟨_, rfl, a, ns, 2, rfl, s6.seq hS, hlen, _, rfl, a, ns, 3, rfl, s6.seq hS, hlen, _, _, rfl, rfl, .inl ⟨_, rfl, _, _, rfl, rfl, p25, ?_⟩⟩
      have m0 := Int.emod_nonneg (ns.getD 3 0 + 9) (Int.ne_of_gt p25)
      have m1 := Int.emod_lt_of_pos (ns.getD 3 0 + 9) p25
      obtain ⟨n, hn⟩ := Int.eq_ofNat_of_zero_le m0
      refine ⟨_, rfl, _, n, 324, by rw [← hn]; rfl, by decide, by decide, by omega, fun H7 D ds s67 nD hD hl hd => ?_⟩
      exact ⟨D, ds, rfl, hD, nD, s67, hd, by omega⟩
    rintro σ H7 ⟨D, ds, rfl, hD, nD6, s67, hdb, hdl⟩
    have s7 := s6.trans s67
    refine ⟨fun σ H' => ∃ (v10 : Option V) (es : List Int), σ = [some (.ref a), some (.ref N), some (.ref W), some (.ref AL), some (.ref TL), some (.ref BL), some (.ref FT), some (.ref tw), some (.int 324), some (.ref D), v10, none, none, none, none, none] ∧ H' D = some (.lst (es.map V.int)) ∧ (∀ b o, b ≠ D → H7 b = some o → H' b = some o) ∧ (∀ d ∈ es, (0 : Int) ≤ d ∧ d < 324), ?_, ?_⟩
    · refine ⟨_, rfl, a, _, rfl, .inl (s7.seq hS), _, _, rfl, (by rw [List.length_map]; exact ⟨by decide, by decide, by omega, by omega⟩), for_range (lo := 4) (n := (((ns.map V.int).length : Int) - 4).toNat) (fun i σ H' => ∃ (v10 : Option V) (es : List Int), σ = [some (.ref a), some (.ref N), some (.ref W), some (.ref AL), some (.ref TL), some (.ref BL), some (.ref FT), some (.ref tw), some (.int 324), some (.ref D), v10, none, none, none, none, none] ∧ H' D = some (.lst (es.map V.int)) ∧ es.length ≤ 24 + i ∧ (∀ b o, b ≠ D → H7 b = some o → H' b = some o) ∧ (∀ d ∈ es, (0 : Int) ≤ d ∧ d < 324))
        ⟨none, ds, rfl, hD, hdl, fun _ _ _ z => z, hdb⟩ ?_ ?_⟩
      · rintro i σ H8 hi ⟨v10, es, rfl, hD8, hel, k8, hes⟩
        rw [List.length_map] at hi
        have hi4 : 4 + i < ns.length := by omega
        have nDH : H D = none := s6.free nD6
        have hS8 : SqL K H8 a (ns.map V.int) := sq_but hS nDH fun b o hb z => k8 b o hb (s7 _ _ z)
        refine ⟨_, rfl, .inl ⟨rfl, _, SqL.of hD8⟩, ?_⟩
        refine ⟨_, rfl, _, rfl, a, _, _, _, rfl, rfl, hS8, (show atI (ns.map V.int) (4 + (i : Int)) = some (.int ns[4 + i]) by rw [show (4 : Int) + (i : Int) = ((4 + i : Nat) : Int) by omega]; exact atI_nat (by rw [List.getElem?_map, List.getElem?_eq_getElem hi4]; rfl)), _, rfl, _, rfl, _, _, _, rfl, p324, by decide, fun H9 d s89 d0 d1 => ?_⟩
        have hD9 := s89 _ _ hD8
        refine ⟨_, _, _, rfl, rfl, hD9, small1000 (by rw [List.length_map]; omega), ⟨_, es ++ [d], rfl, ?_, by rw [List.length_append]; show es.length + 1 ≤ _; omega, fun b o hb z => ?_, fun x hx => ?_⟩⟩
        · rw [upd_same, List.map_append]; rfl
        · rw [upd_ne hb]; exact s89 _ _ (k8 b o hb z)
        · rcases List.mem_append.mp hx with hx | hx
          · exact hes x hx
          · rw [List.mem_singleton.mp hx]; exact ⟨d0, d1⟩
      · rintro σ H8 ⟨v10, es, rfl, hD8, hel, k8, hes⟩
        exact ⟨v10, es, rfl, hD8, k8, hes⟩
    rintro σ H8 ⟨v10, es, rfl, hD8, k8, hes⟩
    have up : Same H4 H6 := s5.trans s56
    have c8 : ∀ {p : Addr} {o : HO}, H6 p = some o → H8 p = some o := fun {p o} h => k8 _ _ (ne_of_none h nD6) (s67 _ _ h)
    have hN8 := c8 (up _ _ hN)
    have hW8 := c8 (up _ _ hW)
    have hA8 := c8 (up _ _ hA)
    have hTL8 := c8 (up _ _ hTL)
    have hBL8 := c8 (up _ _ hBL)
    have hFT8 := c8 (s56 _ _ hFT)
    have ht08 := c8 (up _ _ ht0)
    have ht18 := c8 (up _ _ ht1)
    have hd08 := c8 (up _ _ B0.tbl)
    have hd18 := c8 (up _ _ B1.tbl)
    have hb08 := c8 (up _ _ B0.ins)
    have hb18 := c8 (up _ _ B1.ins)
    have htw8 := c8 Bt.ins
    have hdt8 := c8 Bt.tbl
    have nd (x : Addr) (h : Hc x = none) : t0 ≠ x ∧ t1 ≠ x := ⟨ne_of_none (by assumption) h, ne_of_none (by assumption) h⟩
    have n4 : t0 ≠ d0 ∧ t1 ≠ d0 ∧ t0 ≠ d1 ∧ t1 ≠ d1 := ⟨(nd _ fd0).1, (nd _ fd0).2, (nd _ fd1).1, (nd _ fd1).2⟩
    have nF : t0 ≠ FT ∧ t1 ≠ FT ∧ d0 ≠ FT ∧ d1 ≠ FT := ⟨ne_of_none ht0 nFT, ne_of_none ht1 nFT, ne_of_none B0.tbl nFT, ne_of_none B1.tbl nFT⟩
    have nT : t0 ≠ dt ∧ t1 ≠ dt ∧ d0 ≠ dt ∧ d1 ≠ dt := ⟨ne_of_none (s5 _ _ ht0) ndt, ne_of_none (s5 _ _ ht1) ndt, ne_of_none (s5 _ _ B0.tbl) ndt, ne_of_none (s5 _ _ B1.tbl) ndt⟩
    obtain ⟨t, rfl, rfl⟩ : ∃ t : Nat → Addr, t 0 = t0 ∧ t 1 = t1 := ⟨fun j => if j = 0 then t0 else t1, rfl, rfl⟩
    obtain ⟨b, rfl, rfl⟩ : ∃ t : Nat → Addr, t 0 = b0 ∧ t 1 = b1 := ⟨fun j => if j = 0 then b0 else b1, rfl, rfl⟩
    obtain ⟨dx, rfl, rfl⟩ : ∃ t : Nat → Addr, t 0 = dx0 ∧ t 1 = dx1 := ⟨fun j => if j = 0 then dx0 else dx1, rfl, rfl⟩
    obtain ⟨dd, rfl, rfl⟩ : ∃ t : Nat → Addr, t 0 = d0 ∧ t 1 = d1 := ⟨fun j => if j = 0 then d0 else d1, rfl, rfl⟩
    obtain ⟨f, rfl, rfl⟩ : ∃ t : Nat → Str → Str, t 0 = f0 ∧ t 1 = f1 := ⟨fun j => if j = 0 then f0 else f1, rfl, rfl⟩
    have two2 : ∀ {P : Nat → Prop}, P 0 → P 1 → ∀ j, j < 2 → P j := fun {P} h0 h1 j hj => by
      match j, hj with
      | 0, _ => exact h0
      | 1, _ => exact h1
    have tinj : ∀ i, i < 2 → ∀ j, j < 2 → t i = t j → i = j := two2 (two2 (fun _ => rfl) fun z => absurd z t01) (two2 (fun z => absurd z.symm t01) fun _ => rfl)
    have dinj : ∀ i, i < 2 → ∀ j, j < 2 → dd i = dd j → i = j := two2 (two2 (fun _ => rfl) fun z => absurd z d01) (two2 (fun z => absurd z.symm d01) fun _ => rfl)
    have td : ∀ i, i < 2 → ∀ j, j < 2 → t i ≠ dd j := two2 (two2 n4.1 n4.2.2.1) (two2 n4.2.1 n4.2.2.2)
    have uT : ∀ j : Nat, j < 2 → atI [V.ref (t 0), V.ref (t 1)] (j : Int) = some (V.ref (t j)) := two2 (P := fun j => atI [V.ref (t 0), V.ref (t 1)] (j : Int) = some (V.ref (t j))) rfl rfl
    have uB : ∀ j : Nat, j < 2 → atI [V.ref (b 0), V.ref (b 1)] (j : Int) = some (V.ref (b j)) := two2 (P := fun j => atI [V.ref (b 0), V.ref (b 1)] (j : Int) = some (V.ref (b j))) rfl rfl
    have hT8 : ∀ j, j < 2 → H8 (t j) = some (.dK (tabS ENT (f j))) := two2 ht08 ht18
    have hD8' : ∀ j, j < 2 → H8 (dd j) = some (.dK (tabS ENT (f j))) := two2 hd08 hd18
    obtain ⟨e, e0, e1⟩ : ∃ t : Nat → Str, t 0 = "now" ∧ t 1 = "after" := ⟨fun j => if j = 0 then "now" else "after", rfl, rfl⟩
    have hB8 : ∀ j, j < 2 → H8 (b j) = some (.ins T.c_Book (dx j) [("_ends", .str (e j)), ("_keep", .int 1), ("_answers", .ref (dd j))]) := two2 (by rw [e0]; exact hb08) (by rw [e1]; exact hb18)
    have off : ∀ {p : Addr} {o : HO}, H8 p = some o → (∀ kvs, o ≠ .dK kvs) → ∀ j, j < 2 → p ≠ t j ∧ p ≠ dd j := fun {p o} h n j hj => ⟨fun z => by rw [z, hT8 j hj] at h; exact n _ (Option.some.inj h).symm, fun z => by rw [z, hD8' j hj] at h; exact n _ (Option.some.inj h).symm⟩
    have p2 : (0 : Int) < 2 := by decide
    have p18 : (0 : Int) < 18 := by decide
    have p9 : (0 : Int) < 9 := by decide
    refine ⟨fun σ H' => ∃ (v11 v12 v13 v14 v15 : Option V) (g : Nat → Str → Str), σ = [some (.ref a), some (.ref N), some (.ref W), some (.ref AL), some (.ref TL), some (.ref BL), some (.ref FT), some (.ref tw), some (.int 324), some (.ref D), v10, v11, v12, v13, v14, v15] ∧ (∀ j, j < 2 → H' (t j) = some (.dK (tabS ENT (g j)))) ∧ (∀ j, j < 2 → H' (dd j) = some (.dK (tabS ENT (g j)))) ∧ (∀ p o, (∀ j, j < 2 → p ≠ t j ∧ p ≠ dd j) → H8 p = some o → H' p = some o), ?_, ?_⟩
    · refine ⟨_, rfl, D, rfl, ⟨_, SqL.of hD8⟩, for_list (xs := es.map V.int) (fun i σ H' => ∃ (v11 v12 v13 v14 v15 : Option V) (g : Nat → Str → Str), σ = [some (.ref a), some (.ref N), some (.ref W), some (.ref AL), some (.ref TL), some (.ref BL), some (.ref FT), some (.ref tw), some (.int 324), some (.ref D), v10, v11, v12, v13, v14, v15] ∧ (∀ j, j < 2 → H' (t j) = some (.dK (tabS ENT (g j)))) ∧ (∀ j, j < 2 → H' (dd j) = some (.dK (tabS ENT (g j)))) ∧ (∀ p o, (∀ j, j < 2 → p ≠ t j ∧ p ≠ dd j) → H8 p = some o → H' p = some o))
        ⟨none, none, none, none, none, f, rfl, hT8, hD8', fun _ _ _ z => z⟩ (fun i σ H' _ ⟨_, _, _, _, _, g, _, _, _, k⟩ => SqL.of (k _ _ (off hD8 (by intro z q; cases q)) hD8)) ?_ ?_⟩
      · rintro i x σ H9 hx ⟨v11, v12, v13, v14, v15, g, rfl, gT, gD, k9⟩
        obtain ⟨d, hd, rfl⟩ := ints_at hx
        have m0 := Int.emod_nonneg d (Int.ne_of_gt p2)
        have m1 := Int.emod_lt_of_pos d p2
        obtain ⟨j, hj⟩ := Int.eq_ofNat_of_zero_le m0
        have j2 : j < 2 := by omega
        have c9 : ∀ {p : Addr} {o : HO}, H8 p = some o → (∀ kvs, o ≠ .dK kvs) → H9 p = some o := fun {p o} h n => k9 p o (off h n) h
        have hN9 := c9 hN8 (by intro z q; cases q)
        have hW9 := c9 hW8 (by intro z q; cases q)
        have hA9 := c9 hA8 (by intro z q; cases q)
        have hTL9 := c9 hTL8 (by intro z q; cases q)
        have hBL9 := c9 hBL8 (by intro z q; cases q)
        have hb9 := c9 (hB8 j j2) (by intro z q; cases q)
        obtain ⟨vx, hxm, hatx⟩ := at_modV (L := WRD.map V.str) (n := 18) rfl (by decide) (d / 2)
        obtain ⟨x, hxW, rfl⟩ := List.mem_map.mp hxm
        obtain ⟨vy, hym, haty⟩ := at_modV (L := ANW.map V.str) (n := 9) rfl (by decide) (d / 36)
        obtain ⟨y, hyW, rfl⟩ := List.mem_map.mp hym
        refine ⟨_, rfl, .inl ⟨_, rfl, _, _, rfl, rfl, p2, _, rfl, _, rfl, _, _, rfl, rfl, ⟨by decide, by decide⟩, .inl ⟨_, rfl, _, _, rfl, rfl, p18, W, _, _, _, rfl, rfl, SqL.of hW9, hatx, _, rfl, _, rfl, _, _, rfl, rfl, ⟨by decide, by decide⟩, .inl ⟨_, rfl, _, _, rfl, rfl, p9, AL, _, _, _, rfl, rfl, SqL.of hA9, haty, ?_⟩⟩⟩⟩
        refine ⟨fun σ H' => σ = [some (.ref a), some (.ref N), some (.ref W), some (.ref AL), some (.ref TL), some (.ref BL), some (.ref FT), some (.ref tw), some (.int 324), some (.ref D), v10, some (.int d), some (.int (d % 2)), some (.str x), some (.str y), some (.str (setM x y))] ∧ Same H9 H', ?_, ?_⟩
        · refine ⟨_, rfl, _, rfl, N, ENT.map V.str, rfl, .inl (SqL.of hN9), rfl, flat_strs _, _, rfl, ?_⟩
          rw [inV_str]
          by_cases hxE : x ∈ ENT
          · rw [decide_eq_true hxE]
            refine iteF ⟨_, rfl, _, rfl, _, rfl, fun H10 P s10 nP hP => ⟨P, _, rfl, .inl (SqL.of hP), rfl, flat_strs _, _, rfl, ?_⟩⟩
            rw [inV_str]
            by_cases hyC : y ∈ chs x
            · rw [decide_eq_true hyC]
              have e0 : setM x y = "set" := (if_neg (fun z => z hxE)).trans (if_neg (fun z => z hyC))
              rw [e0]
              exact iteF ⟨rfl, s10⟩
            · rw [decide_eq_false hyC]
              have e0 : setM x y = "answer" := (if_neg (fun z => z hxE)).trans (if_pos hyC)
              rw [e0]
              exact iteT ⟨rfl, s10⟩
          · rw [decide_eq_false hxE]
            have e0 : setM x y = "entry" := if_pos hxE
            rw [e0]
            exact iteT ⟨rfl, Same.refl _⟩
        rintro σ H10 ⟨rfl, s10⟩
        have uTj : atI [V.ref (t 0), V.ref (t 1)] (d % 2) = some (V.ref (t j)) := by rw [hj]; exact uT j j2
        have uBj : atI [V.ref (b 0), V.ref (b 1)] (d % 2) = some (V.ref (b j)) := by rw [hj]; exact uB j j2
        have Bj : Bk T.c_Book H10 (b j) (dx j) (dd j) (g j) (e j) 1 := ⟨s10 _ _ hb9, s10 _ _ (gD j j2)⟩
        refine ⟨_, rfl, _, rfl, BL, _, _, _, rfl, rfl, SqL.of (s10 _ _ hBL9), uBj, _, rfl, _, rfl, b j, dx j, dd j, g j, e j, 1, x, y, rfl, Bj, fun H11 fr hd => ⟨_, rfl, rfl, _, rfl, ?_⟩⟩
        rw [decide_eq_true (rfl : V.str (setM x y) = V.str (setM x y))]
        refine iteF ?_
        have hT11 : ∀ i, i < 2 → H11 (t i) = some (.dK (tabS ENT (g i))) := fun i hi => fr _ _ (td i hi j j2) (s10 _ _ (gT i hi))
        have f11 : ∀ {p : Addr} {o : HO}, H9 p = some o → (∀ kvs, o ≠ .dK kvs) → H11 p = some o := fun {p o} h n => fr _ _ (fun z => by rw [z, gD j j2] at h; exact n _ (Option.some.inj h).symm) (s10 _ _ h)
        have hTL11 := f11 hTL9 (by intro z q; cases q)
        have hBL11 := f11 hBL9 (by intro z q; cases q)
        have hb11 := f11 hb9 (by intro z q; cases q)
        have k11 : ∀ p o, (∀ i, i < 2 → p ≠ t i ∧ p ≠ dd i) → H8 p = some o → H11 p = some o := fun p o h z => fr _ _ (h j j2).2 (s10 _ _ (k9 p o h z))
        have dD11 : ∀ i, i < 2 → i ≠ j → H11 (dd i) = some (.dK (tabS ENT (g i))) := fun i hi hn => fr _ _ (fun z => hn (dinj i hi j j2 z)) (s10 _ _ (gD i hi))
        by_cases hs : setM x y = "set"
        · rw [hs] at hd ⊢
          rw [if_pos rfl] at hd
          have hxE : x ∈ ENT := by
            by_cases q : x ∈ ENT
            · exact q
            · have e2 : setM x y = "entry" := if_pos q
              rw [e2] at hs
              exact absurd hs (by decide +kernel)
          refine ⟨_, rfl, rfl, _, rfl, ?_⟩
          rw [decide_eq_true (rfl : V.str "set" = V.str "set")]
          refine iteT ⟨_, rfl, _, rfl, _, rfl, TL, _, _, _, rfl, rfl, SqL.of hTL11, uTj, _, rfl, t j, _, rfl, DPut.k (k := Sum.inr x) (hT11 j j2) (by rw [tab_len]; exact small1000 (by decide)), ?_⟩
          rw [put_in (g := V.str) hxE]
          have kO : ∀ {p : Addr} {o : HO}, H11 p = some o → p ≠ t j → (upd H11 (t j) (.dK (tab V.str ENT (put (g j) x y)))) p = some o := fun {p o} h n => by rw [upd_ne n]; exact h
          have hT12 : (upd H11 (t j) (.dK (tab V.str ENT (put (g j) x y)))) (t j) = some (.dK (tabS ENT (put (g j) x y))) := upd_same
          have tne : ∀ {p : Addr} {o : HO}, H11 p = some o → (∀ kvs, o ≠ .dK kvs) → p ≠ t j := fun {p o} h n z => by rw [z, hT11 j j2] at h; exact n _ (Option.some.inj h).symm
          have GBL := kO hBL11 (tne hBL11 (by intro z q; cases q))
          have GTL := kO hTL11 (tne hTL11 (by intro z q; cases q))
          have Gb := kO hb11 (tne hb11 (by intro z q; cases q))
          have Gd := kO hd (fun z => td j j2 j j2 z.symm)
          have Gt := hT12
          refine ⟨_, rfl, rfl, _, rfl, ?_⟩
          rw [decide_eq_false (fun z => absurd (V.str.inj z) (by decide +kernel) : ¬ V.str "set" = V.str "entry")]
          refine iteF ?_
          refine ⟨_, rfl, _, rfl, BL, _, _, _, rfl, rfl, SqL.of GBL, uBj, _, rfl, b j, dx j, _, rfl, Gb, b j, dx j, dd j, (put (g j) x y), e j, 1, .str x, rfl, ⟨Gb, Gd⟩, rfl, fun x' hx' hE' => ?_, fun hn => absurd ⟨x, rfl, hxE⟩ hn⟩
          cases hx'
          have gt := DGet.k (k := Sum.inr x) Gt
          rw [val_in (g := V.str) hxE] at gt
          refine ⟨_, rfl, _, rfl, TL, _, _, _, rfl, rfl, SqL.of GTL, uTj, _, rfl, t j, _, rfl, gt, rfl, _, rfl, ?_⟩
          rw [decide_eq_true (rfl : V.str ((put (g j) x y) x) = V.str ((put (g j) x y) x))]
          refine iteF ⟨_, _, _, _, _, fun i => if i = j then put (g j) x y else g i, rfl, fun i hi => ?_, fun i hi => ?_, fun p o h z => kO (k11 p o h z) (h j j2).1⟩
          · show _ = some (HO.dK (tabS ENT (if i = j then put (g j) x y else g i)))
            by_cases q : i = j
            · subst q
              rw [if_pos rfl]
              exact hT12
            · rw [if_neg q]
              exact kO (hT11 i hi) fun z => q (tinj i hi j j2 z)
          · show _ = some (HO.dK (tabS ENT (if i = j then put (g j) x y else g i)))
            by_cases q : i = j
            · subst q
              rw [if_pos rfl]
              exact Gd
            · rw [if_neg q]
              exact kO (dD11 i hi q) fun z => td j j2 i hi z.symm
        · rw [if_neg hs] at hd
          refine ⟨_, rfl, rfl, _, rfl, ?_⟩
          rw [decide_eq_false (fun z => hs (V.str.inj z) : ¬ V.str (setM x y) = V.str "set")]
          refine iteF ?_
          have keepD : ∀ i, i < 2 → H11 (dd i) = some (.dK (tabS ENT (g i))) := fun i hi => by
            by_cases q : i = j
            · subst q; exact hd
            · exact dD11 i hi q
          refine ⟨_, rfl, rfl, _, rfl, ?_⟩
          by_cases hxE : x ∈ ENT
          · have e2 : ¬ (setM x y = "entry") := by
              unfold setM
              rw [if_neg (fun z => z hxE)]
              by_cases q : y ∉ chs x
              · rw [if_pos q]; decide +kernel
              · rw [if_neg q]; decide +kernel
            rw [decide_eq_false (fun z => e2 (V.str.inj z) : ¬ V.str (setM x y) = V.str "entry")]
            have GBL := hBL11
            have GTL := hTL11
            have Gb := hb11
            have Gd := hd
            have Gt := hT11 j j2
            refine iteF ?_
            refine ⟨_, rfl, _, rfl, BL, _, _, _, rfl, rfl, SqL.of GBL, uBj, _, rfl, b j, dx j, _, rfl, Gb, b j, dx j, dd j, (g j), e j, 1, .str x, rfl, ⟨Gb, Gd⟩, rfl, fun x' hx' hE' => ?_, fun hn => absurd ⟨x, rfl, hxE⟩ hn⟩
            cases hx'
            have gt := DGet.k (k := Sum.inr x) Gt
            rw [val_in (g := V.str) hxE] at gt
            refine ⟨_, rfl, _, rfl, TL, _, _, _, rfl, rfl, SqL.of GTL, uTj, _, rfl, t j, _, rfl, gt, rfl, _, rfl, ?_⟩
            rw [decide_eq_true (rfl : V.str ((g j) x) = V.str ((g j) x))]
            exact iteF ⟨_, _, _, _, _, g, rfl, hT11, keepD, k11⟩
          · have e2 : setM x y = "entry" := if_pos hxE
            rw [decide_eq_true (congrArg V.str e2)]
            refine iteT ⟨_, rfl, _, rfl, BL, _, _, _, rfl, rfl, SqL.of hBL11, uBj, _, rfl, b j, dx j, dd j, g j, e j, 1, x, rfl, ⟨hb11, hd⟩, hxE, fun H12 s12 => ⟨_, rfl, iteF ⟨_, _, _, _, _, g, rfl, fun i hi => s12 _ _ (hT11 i hi), fun i hi => s12 _ _ (keepD i hi), fun p o h z => s12 _ _ (k11 p o h z)⟩⟩⟩
      · rintro σ H' h
        exact h
    rintro σ H9 ⟨v11, v12, v13, v14, v15, g, rfl, gT, gD, k9⟩
    have c9 : ∀ {p : Addr} {o : HO}, H8 p = some o → (∀ kvs, o ≠ .dK kvs) → H9 p = some o := fun {p o} h n => k9 p o (off h n) h
    have hN9 := c9 hN8 (by intro z q; cases q)
    have hTL9 := c9 hTL8 (by intro z q; cases q)
    have hBL9 := c9 hBL8 (by intro z q; cases q)
    have hb9 : ∀ j, j < 2 → H9 (b j) = _ := fun j hj => c9 (hB8 j hj) (by intro z q; cases q)
    have htw9 := c9 htw8 (by intro z q; cases q)
    have oF : ∀ j, j < 2 → FT ≠ t j ∧ FT ≠ dd j := two2 ⟨nF.1.symm, nF.2.2.1.symm⟩ ⟨nF.2.1.symm, nF.2.2.2.symm⟩
    have oT : ∀ j, j < 2 → dt ≠ t j ∧ dt ≠ dd j := two2 ⟨nT.1.symm, nT.2.2.1.symm⟩ ⟨nT.2.1.symm, nT.2.2.2.symm⟩
    have hFT9 := k9 _ _ oF hFT8
    have hdt9 := k9 _ _ oT hdt8
    refine ⟨fun σ H' => ∃ v13, σ = [some (.ref a), some (.ref N), some (.ref W), some (.ref AL), some (.ref TL), some (.ref BL), some (.ref FT), some (.ref tw), some (.int 324), some (.ref D), v10, v11, v12, v13, v14, v15] ∧ Same H9 H', ?_, ?_⟩
    · refine ⟨_, rfl, N, rfl, ⟨_, SqL.of hN9⟩, for_list (xs := ENT.map V.str) (fun i σ H' => ∃ v13, σ = [some (.ref a), some (.ref N), some (.ref W), some (.ref AL), some (.ref TL), some (.ref BL), some (.ref FT), some (.ref tw), some (.int 324), some (.ref D), v10, v11, v12, v13, v14, v15] ∧ Same H9 H')
        ⟨v13, rfl, Same.refl _⟩ (fun i σ H' _ ⟨_, _, s⟩ => SqL.of (s _ _ hN9)) ?_ ?_⟩
      · rintro i x σ H10 hx ⟨v13, rfl, s10⟩
        rw [List.getElem?_map] at hx
        cases hq : ENT[i]? with
        | none => rw [hq] at hx; cases hx
        | some y =>
        rw [hq] at hx
        cases hx
        have hy : y ∈ ENT := List.mem_of_getElem? hq
        have gt : ∀ {p : Addr} {f' : Str → Str}, H9 p = some (.dK (tabS ENT f')) → DGet H10 p (.str y) (some (.str (f' y))) := fun {p f'} h => by
          have g0 := DGet.k (k := Sum.inr y) (s10 _ _ h)
          rw [val_in (g := V.str) hy] at g0
          exact g0
        have get1 : ∀ j, j < 2 → Bk T.c_Book H10 (b j) (dx j) (dd j) (g j) (e j) 1 := fun j hj => ⟨s10 _ _ (hb9 j hj), s10 _ _ (gD j hj)⟩
        have ent : ¬ ¬ isEnt (.str y) := fun z => z ⟨y, rfl, hy⟩
        refine ⟨_, rfl, BL, _, _, _, rfl, rfl, SqL.of (s10 _ _ hBL9), ul0, _, rfl, b 0, dx 0, _, rfl, (get1 0 (by decide)).ins, b 0, dx 0, dd 0, g 0, e 0, 1, .str y, rfl, get1 0 (by decide), rfl, fun x' hx' _ => ?_, fun hn => absurd hn ent⟩
        cases hx'
        refine ⟨_, rfl, TL, _, _, _, rfl, rfl, SqL.of (s10 _ _ hTL9), ul0, _, rfl, t 0, _, rfl, gt (gT 0 (by decide)), rfl, _, rfl, ?_⟩
        rw [decide_eq_true (rfl : V.str (g 0 y) = V.str (g 0 y))]
        refine iteF ⟨_, rfl, BL, _, _, _, rfl, rfl, SqL.of (s10 _ _ hBL9), ul1, _, rfl, b 1, dx 1, _, rfl, (get1 1 (by decide)).ins, b 1, dx 1, dd 1, g 1, e 1, 1, .str y, rfl, get1 1 (by decide), rfl, fun x' hx' _ => ?_, fun hn => absurd hn ent⟩
        cases hx'
        refine ⟨_, rfl, TL, _, _, _, rfl, rfl, SqL.of (s10 _ _ hTL9), ul1, _, rfl, t 1, _, rfl, gt (gT 1 (by decide)), rfl, _, rfl, ?_⟩
        rw [decide_eq_true (rfl : V.str (g 1 y) = V.str (g 1 y))]
        refine iteF ⟨_, rfl, _, rfl, tw, dxt, _, rfl, s10 _ _ htw9, tw, dxt, dt, f 0, "now", 1, .str y, rfl, ⟨s10 _ _ htw9, s10 _ _ hdt9⟩, rfl, fun x' hx' _ => ?_, fun hn => absurd hn ent⟩
        cases hx'
        refine ⟨_, rfl, _, rfl, FT, _, rfl, gt hFT9, rfl, _, rfl, ?_⟩
        rw [decide_eq_true (rfl : V.str (f 0 y) = V.str (f 0 y))]
        exact iteF ⟨_, rfl, s10⟩
      · rintro σ H10 h
        exact h
    rintro σ H10 ⟨v13, rfl, s10⟩
    exact k H10
end
end K06

namespace K06
open PySem L2
theorem walk {l : PySem.W.OpenLaw} {q : Program} {loose : List Str} {XP : (Str → Option Value) → Heap → Prop} {YP : World → Heap → Prop} {d : DefRec} {K : Params → PySem.W.Frag} (hn : l.most = some 63) (hdf : d.params.defaults = [])
    (hY : ∀ (w : World) (h : Heap), YP w h → (K w.params).In h)
    (F : ∀ (w : World) (mg : Str → Option Value) (fa : Addr) (h : Heap), (K w.params).In h → h.Ns mainGlobals mg → mg d.name = some (.ref fa) →
      ∃ fd : FuncData, (∀ (s : Shared) (u : Value), BindsTo s fd ⟨[u], []⟩ [("_law_script", u)]) ∧ ∀ base : Heap, (K w.params).In base → base.Ns mainGlobals mg → FnOk l.prog w (K w.params) mg base CX0 12 fa fd ["_law_script"] (spLaw (K w.params))) :
    PySem.W.WalkO q loose XP YP l.row.toRowW d [] (fun f vs => PySem.call f vs) :=
  L2.walk_of (n := 63) (k := 12) (x := "_law_script") (CX := fun _ => CX0) (sp := fun w => spLaw (K w.params)) hn (by decide) hdf ⟨rfl, by decide, by decide⟩ hY F (fun _ _ a ns hl _ hS => ⟨a, ns, rfl, hS, hl, fun _ => rfl⟩) fun _ _ _ _ _ z => z
theorem law_fd {w : World} {K : PySem.W.Frag} {mg : Str → Option Value} (T : Txt w K mg) : ∀ (s : Shared) (u : Value), BindsTo s T.d_law ⟨[u], []⟩ [("_law_script", u)] := by
  obtain ⟨⟨oc, od, kV, doc, pm, an, cdv, ct, osl, e, lk, hcd⟩, _⟩ := T.F_law
  rw [e]
  exact fun s u => .of_eq rfl
theorem fin {w : World} {K : PySem.W.Frag} {mg : Str → Option Value} {fa : Addr} (A : ∃ T : Txt w K mg, T.f_law = fa) : ∃ fd : FuncData, (∀ (s : Shared) (u : Value), BindsTo s fd ⟨[u], []⟩ [("_law_script", u)]) ∧ ∀ base : Heap, K.In base → base.Ns mainGlobals mg →
    FnOk PySem.Challenge.rw_stamprules_k06_cells_of_a_book.prog w K mg base CX0 12 fa fd ["_law_script"] (spLaw K) := by
  obtain ⟨T, e⟩ := A
  subst e
  exact ⟨T.d_law, law_fd T, fun base _ _ => ok_law T⟩
end K06
open PySem PySem.W PyProof.Rows
set_option maxRecDepth 100000 in
set_option maxHeartbeats 0 in
theorem PySem.Challenge.cw_stamprules_k06_cells_of_a_book_holds : PySem.Challenge.rw_stamprules_k06_cells_of_a_book.Holds := by
  w_on; o_law; k_head; (case hw => w_witness2)
  k_fill
  refine K06.walk (l := PySem.Challenge.rw_stamprules_k06_cells_of_a_book) rfl rfl (fun w h Y => PySem.W.kIn_of Y) ?F
  case F =>
    intro w mg fa h KX G hmg
    refine' K06.fin (K06.all_mk (w := w) KX G hmg ?z_hn ?z_ht ?gc_StampError ?kc_StampError ?gc_BadEntry ?kc_BadEntry ?gc_BadAnswer ?kc_BadAnswer ?gc_BadSetting ?kc_BadSetting ?gc_Book ?kc_Book ?xl_StampError ?sa_StampError ?xb_StampError ?xt_StampError ?ga_StampError ?gg_StampError ?hd_StampError ?ha_StampError ?hm_StampError ?sb_StampError_StampError ?ko_StampError_StampError ?sb_StampError_BadEntry ?ko_StampError_BadEntry ?sb_StampError_BadAnswer ?ko_StampError_BadAnswer ?sb_StampError_BadSetting ?ko_StampError_BadSetting ?kv_StampError ?xl_BadEntry ?sa_BadEntry ?xb_BadEntry ?xt_BadEntry ?ga_BadEntry ?gg_BadEntry ?hd_BadEntry ?ha_BadEntry ?hm_BadEntry ?sb_BadEntry_StampError ?ko_BadEntry_StampError ?sb_BadEntry_BadEntry ?ko_BadEntry_BadEntry ?sb_BadEntry_BadAnswer ?ko_BadEntry_BadAnswer ?sb_BadEntry_BadSetting ?ko_BadEntry_BadSetting ?kv_BadEntry ?na_BadEntry_entry ?xl_BadAnswer ?sa_BadAnswer ?xb_BadAnswer ?xt_BadAnswer ?ga_BadAnswer ?gg_BadAnswer ?hd_BadAnswer ?ha_BadAnswer ?hm_BadAnswer ?sb_BadAnswer_StampError ?ko_BadAnswer_StampError ?sb_BadAnswer_BadEntry ?ko_BadAnswer_BadEntry ?sb_BadAnswer_BadAnswer ?ko_BadAnswer_BadAnswer ?sb_BadAnswer_BadSetting ?ko_BadAnswer_BadSetting ?kv_BadAnswer ?na_BadAnswer_answer ?na_BadAnswer_entry ?xl_BadSetting ?sa_BadSetting ?xb_BadSetting ?xt_BadSetting ?ga_BadSetting ?gg_BadSetting ?hd_BadSetting ?ha_BadSetting ?hm_BadSetting ?sb_BadSetting_StampError ?ko_BadSetting_StampError ?sb_BadSetting_BadEntry ?ko_BadSetting_BadEntry ?sb_BadSetting_BadAnswer ?ko_BadSetting_BadAnswer ?sb_BadSetting_BadSetting ?ko_BadSetting_BadSetting ?kv_BadSetting ?na_BadSetting_given ?pg_Book ?hd_Book ?po_Book ?sa_Book ?mk_Book ?ha_Book ?hm_Book ?ko_Book ?na_Book__answers ?na_Book__ends ?na_Book__keep ?a_BadEntry_init ?l_BadEntry_init ?c_BadEntry_init ?cl_BadEntry_init ?cv_BadEntry_init ?cw_BadEntry_init ?cx_BadEntry_init ?tp_BadEntry_init ?su_BadEntry_init ?ve_BadEntry_init ?md_BadEntry_init ?ti_BadEntry_init ?z_th ?z_su ?a_BadAnswer_init ?l_BadAnswer_init ?c_BadAnswer_init ?cl_BadAnswer_init ?cv_BadAnswer_init ?cw_BadAnswer_init ?cx_BadAnswer_init ?tp_BadAnswer_init ?su_BadAnswer_init ?ve_BadAnswer_init ?md_BadAnswer_init ?ti_BadAnswer_init ?a_BadSetting_init ?l_BadSetting_init ?c_BadSetting_init ?cl_BadSetting_init ?cv_BadSetting_init ?cw_BadSetting_init ?cx_BadSetting_init ?tp_BadSetting_init ?su_BadSetting_init ?ve_BadSetting_init ?md_BadSetting_init ?ti_BadSetting_init ?a_Book_init ?l_Book_init ?c_Book_init ?k_Book_init ?kw0_Book_init ?kw1_Book_init ?T1_Book_init ?fn_Book_init ?a_Book_copy ?l_Book_copy ?c_Book_copy ?k_Book_copy ?fn_Book_copy ?a_Book_getitem ?l_Book_getitem ?c_Book_getitem ?k_Book_getitem ?fn_Book_getitem ?nd_Book ?fi_Book_getitem ?a_Book_setitem ?l_Book_setitem ?c_Book_setitem ?k_Book_setitem ?fn_Book_setitem ?a_answers_at ?l_answers_at ?c_answers_at ?k_answers_at ?a_check_answer ?l_check_answer ?c_check_answer ?k_check_answer ?a_is_keep ?l_is_keep ?c_is_keep ?k_is_keep ?a_law_cell ?l_law_cell ?c_law_cell ?k_law_cell ?a_law_row ?l_law_row ?c_law_row ?k_law_row ?a_law_entries ?l_law_entries ?c_law_entries ?k_law_entries ?a_law_choices ?l_law_choices ?c_law_choices ?k_law_choices ?a_law_table ?l_law_table ?c_law_table ?k_law_table ?a_law_one ?l_law_one ?c_law_one ?k_law_one ?a_law_set ?l_law_set ?c_law_set ?k_law_set ?a_law_unknown ?l_law_unknown ?c_law_unknown ?k_law_unknown ?a_law ?l_law ?c_law ?k_law ?gv_ENTRIES ?tl_ENTRIES ?gv_ANSWERS ?dl_ANSWERS ?dk_ANSWERS ?ds_ANSWERS ?tl_0_ANSWERS ?tl_1_ANSWERS ?tl_2_ANSWERS ?tl_3_ANSWERS ?tl_4_ANSWERS ?tl_5_ANSWERS ?tl_6_ANSWERS ?tl_7_ANSWERS ?tl_8_ANSWERS ?tl_9_ANSWERS ?tl_10_ANSWERS ?tl_11_ANSWERS ?tl_12_ANSWERS ?tl_13_ANSWERS ?dn0_ANSWERS ?dn1_ANSWERS ?dn2_ANSWERS ?dn3_ANSWERS ?dn4_ANSWERS ?dn5_ANSWERS ?dn6_ANSWERS ?dn7_ANSWERS ?dn8_ANSWERS ?dn9_ANSWERS ?dn10_ANSWERS ?dn11_ANSWERS ?dn12_ANSWERS ?dn13_ANSWERS ?gv_MOST_KEPT ?n_bool ?n_dict ?n_int ?n_isinstance ?n_len ?n_range ?n_super)
    (case z_hn => k_is)
    (case z_ht => k_is)
    (case gc_StampError => k_is)
    (case kc_StampError => k_is)
    (case gc_BadEntry => k_is)
    (case kc_BadEntry => k_is)
    (case gc_BadAnswer => k_is)
    (case kc_BadAnswer => k_is)
    (case gc_BadSetting => k_is)
    (case kc_BadSetting => k_is)
    (case gc_Book => k_is)
    (case kc_Book => k_is)
    (case xl_StampError => k_is)
    (case sa_StampError => k_is)
    (case xb_StampError => k_is)
    (case xt_StampError => k_is)
    (case ga_StampError => k_is)
    (case gg_StampError => k_is)
    (case hd_StampError => k_is)
    (case ha_StampError => k_is)
    (case hm_StampError => k_is)
    (case sb_StampError_StampError => first | rfl | k_is)
    (case ko_StampError_StampError => first | rfl | k_is)
    (case sb_StampError_BadEntry => first | rfl | k_is)
    (case ko_StampError_BadEntry => first | rfl | k_is)
    (case sb_StampError_BadAnswer => first | rfl | k_is)
    (case ko_StampError_BadAnswer => first | rfl | k_is)
    (case sb_StampError_BadSetting => first | rfl | k_is)
    (case ko_StampError_BadSetting => first | rfl | k_is)
    (case kv_StampError => first | rfl | k_is)
    (case xl_BadEntry => k_is)
    (case sa_BadEntry => k_is)
    (case xb_BadEntry => k_is)
    (case xt_BadEntry => k_is)
    (case ga_BadEntry => k_is)
    (case gg_BadEntry => k_is)
    (case hd_BadEntry => k_is)
    (case ha_BadEntry => k_is)
    (case hm_BadEntry => k_is)
    (case sb_BadEntry_StampError => first | rfl | k_is)
    (case ko_BadEntry_StampError => first | rfl | k_is)
    (case sb_BadEntry_BadEntry => first | rfl | k_is)
    (case ko_BadEntry_BadEntry => first | rfl | k_is)
    (case sb_BadEntry_BadAnswer => first | rfl | k_is)
    (case ko_BadEntry_BadAnswer => first | rfl | k_is)
    (case sb_BadEntry_BadSetting => first | rfl | k_is)
    (case ko_BadEntry_BadSetting => first | rfl | k_is)
    (case kv_BadEntry => first | rfl | k_is)
    (case na_BadEntry_entry => k_is)
    (case xl_BadAnswer => k_is)
    (case sa_BadAnswer => k_is)
    (case xb_BadAnswer => k_is)
    (case xt_BadAnswer => k_is)
    (case ga_BadAnswer => k_is)
    (case gg_BadAnswer => k_is)
    (case hd_BadAnswer => k_is)
    (case ha_BadAnswer => k_is)
    (case hm_BadAnswer => k_is)
    (case sb_BadAnswer_StampError => first | rfl | k_is)
    (case ko_BadAnswer_StampError => first | rfl | k_is)
    (case sb_BadAnswer_BadEntry => first | rfl | k_is)
    (case ko_BadAnswer_BadEntry => first | rfl | k_is)
    (case sb_BadAnswer_BadAnswer => first | rfl | k_is)
    (case ko_BadAnswer_BadAnswer => first | rfl | k_is)
    (case sb_BadAnswer_BadSetting => first | rfl | k_is)
    (case ko_BadAnswer_BadSetting => first | rfl | k_is)
    (case kv_BadAnswer => first | rfl | k_is)
    (case na_BadAnswer_answer => k_is)
    (case na_BadAnswer_entry => k_is)
    (case xl_BadSetting => k_is)
    (case sa_BadSetting => k_is)
    (case xb_BadSetting => k_is)
    (case xt_BadSetting => k_is)
    (case ga_BadSetting => k_is)
    (case gg_BadSetting => k_is)
    (case hd_BadSetting => k_is)
    (case ha_BadSetting => k_is)
    (case hm_BadSetting => k_is)
    (case sb_BadSetting_StampError => first | rfl | k_is)
    (case ko_BadSetting_StampError => first | rfl | k_is)
    (case sb_BadSetting_BadEntry => first | rfl | k_is)
    (case ko_BadSetting_BadEntry => first | rfl | k_is)
    (case sb_BadSetting_BadAnswer => first | rfl | k_is)
    (case ko_BadSetting_BadAnswer => first | rfl | k_is)
    (case sb_BadSetting_BadSetting => first | rfl | k_is)
    (case ko_BadSetting_BadSetting => first | rfl | k_is)
    (case kv_BadSetting => first | rfl | k_is)
    (case na_BadSetting_given => k_is)
    (case pg_Book => k_is)
    (case hd_Book => k_is)
    (case po_Book => k_is)
    (case sa_Book => k_is)
    (case mk_Book => k_is)
    (case ha_Book => k_is)
    (case hm_Book => k_is)
    (case ko_Book => first | rfl | k_is)
    (case na_Book__answers => k_is)
    (case na_Book__ends => k_is)
    (case na_Book__keep => k_is)
    (case a_BadEntry_init => k_is)
    (case l_BadEntry_init => k_is)
    (case c_BadEntry_init => k_is)
    (case cl_BadEntry_init => k_is)
    (case cv_BadEntry_init => k_is)
    (case cw_BadEntry_init => rfl)
    (case cx_BadEntry_init => first | rfl | decide +kernel)
    (case tp_BadEntry_init => first | rfl | decide +kernel)
    (case su_BadEntry_init => first | rfl | k_is)
    (case ve_BadEntry_init => first | rfl | k_is)
    (case md_BadEntry_init => first | rfl | k_is)
    (case ti_BadEntry_init => k_is)
    (case z_th => k_is)
    (case z_su => k_is)
    (case a_BadAnswer_init => k_is)
    (case l_BadAnswer_init => k_is)
    (case c_BadAnswer_init => k_is)
    (case cl_BadAnswer_init => k_is)
    (case cv_BadAnswer_init => k_is)
    (case cw_BadAnswer_init => rfl)
    (case cx_BadAnswer_init => first | rfl | decide +kernel)
    (case tp_BadAnswer_init => first | rfl | decide +kernel)
    (case su_BadAnswer_init => first | rfl | k_is)
    (case ve_BadAnswer_init => first | rfl | k_is)
    (case md_BadAnswer_init => first | rfl | k_is)
    (case ti_BadAnswer_init => k_is)
    (case a_BadSetting_init => k_is)
    (case l_BadSetting_init => k_is)
    (case c_BadSetting_init => k_is)
    (case cl_BadSetting_init => k_is)
    (case cv_BadSetting_init => k_is)
    (case cw_BadSetting_init => rfl)
    (case cx_BadSetting_init => first | rfl | decide +kernel)
    (case tp_BadSetting_init => first | rfl | decide +kernel)
    (case su_BadSetting_init => first | rfl | k_is)
    (case ve_BadSetting_init => first | rfl | k_is)
    (case md_BadSetting_init => first | rfl | k_is)
    (case ti_BadSetting_init => k_is)
    (case a_Book_init => k_is)
    (case l_Book_init => k_is)
    (case c_Book_init => k_is)
    (case k_Book_init => k_is)
    (case kw0_Book_init => k_is)
    (case kw1_Book_init => k_is)
    (case T1_Book_init => k_is)
    (case fn_Book_init => k_is)
    (case a_Book_copy => k_is)
    (case l_Book_copy => k_is)
    (case c_Book_copy => k_is)
    (case k_Book_copy => k_is)
    (case fn_Book_copy => k_is)
    (case a_Book_getitem => k_is)
    (case l_Book_getitem => k_is)
    (case c_Book_getitem => k_is)
    (case k_Book_getitem => k_is)
    (case fn_Book_getitem => k_is)
    (case nd_Book => k_is)
    (case fi_Book_getitem => k_is)
    (case a_Book_setitem => k_is)
    (case l_Book_setitem => k_is)
    (case c_Book_setitem => k_is)
    (case k_Book_setitem => k_is)
    (case fn_Book_setitem => k_is)
    (case a_answers_at => k_is)
    (case l_answers_at => k_is)
    (case c_answers_at => k_is)
    (case k_answers_at => k_is)
    (case a_check_answer => k_is)
    (case l_check_answer => k_is)
    (case c_check_answer => k_is)
    (case k_check_answer => k_is)
    (case a_is_keep => k_is)
    (case l_is_keep => k_is)
    (case c_is_keep => k_is)
    (case k_is_keep => k_is)
    (case a_law_cell => k_is)
    (case l_law_cell => k_is)
    (case c_law_cell => k_is)
    (case k_law_cell => k_is)
    (case a_law_row => k_is)
    (case l_law_row => k_is)
    (case c_law_row => k_is)
    (case k_law_row => k_is)
    (case a_law_entries => k_is)
    (case l_law_entries => k_is)
    (case c_law_entries => k_is)
    (case k_law_entries => k_is)
    (case a_law_choices => k_is)
    (case l_law_choices => k_is)
    (case c_law_choices => k_is)
    (case k_law_choices => k_is)
    (case a_law_table => k_is)
    (case l_law_table => k_is)
    (case c_law_table => k_is)
    (case k_law_table => k_is)
    (case a_law_one => k_is)
    (case l_law_one => k_is)
    (case c_law_one => k_is)
    (case k_law_one => k_is)
    (case a_law_set => k_is)
    (case l_law_set => k_is)
    (case c_law_set => k_is)
    (case k_law_set => k_is)
    (case a_law_unknown => k_is)
    (case l_law_unknown => k_is)
    (case c_law_unknown => k_is)
    (case k_law_unknown => k_is)
    (case a_law => k_is)
    (case l_law => k_is)
    (case c_law => k_is)
    (case k_law => k_is)
    (case gv_ENTRIES => k_is)
    (case tl_ENTRIES => k_is)
    (case gv_ANSWERS => k_is)
    (case dl_ANSWERS => k_is)
    (case dk_ANSWERS => first | k_is | exact ⟨⟨_, _, rfl, rfl⟩, ⟨_, _, rfl, rfl⟩, ⟨_, _, rfl, rfl⟩, ⟨_, _, rfl, rfl⟩, ⟨_, _, rfl, rfl⟩, ⟨_, _, rfl, rfl⟩, ⟨_, _, rfl, rfl⟩, ⟨_, _, rfl, rfl⟩, ⟨_, _, rfl, rfl⟩, ⟨_, _, rfl, rfl⟩, ⟨_, _, rfl, rfl⟩, ⟨_, _, rfl, rfl⟩, ⟨_, _, rfl, rfl⟩, ⟨_, _, rfl, rfl⟩, trivial⟩)
    (case ds_ANSWERS => first | rfl | decide +kernel)
    (case tl_0_ANSWERS => k_is)
    (case tl_1_ANSWERS => k_is)
    (case tl_2_ANSWERS => k_is)
    (case tl_3_ANSWERS => k_is)
    (case tl_4_ANSWERS => k_is)
    (case tl_5_ANSWERS => k_is)
    (case tl_6_ANSWERS => k_is)
    (case tl_7_ANSWERS => k_is)
    (case tl_8_ANSWERS => k_is)
    (case tl_9_ANSWERS => k_is)
    (case tl_10_ANSWERS => k_is)
    (case tl_11_ANSWERS => k_is)
    (case tl_12_ANSWERS => k_is)
    (case tl_13_ANSWERS => k_is)
    (case dn0_ANSWERS => k_is)
    (case dn1_ANSWERS => k_is)
    (case dn2_ANSWERS => k_is)
    (case dn3_ANSWERS => k_is)
    (case dn4_ANSWERS => k_is)
    (case dn5_ANSWERS => k_is)
    (case dn6_ANSWERS => k_is)
    (case dn7_ANSWERS => k_is)
    (case dn8_ANSWERS => k_is)
    (case dn9_ANSWERS => k_is)
    (case dn10_ANSWERS => k_is)
    (case dn11_ANSWERS => k_is)
    (case dn12_ANSWERS => k_is)
    (case dn13_ANSWERS => k_is)
    (case gv_MOST_KEPT => k_is)
    (case n_bool => k_is)
    (case n_dict => k_is)
    (case n_int => k_is)
    (case n_isinstance => k_is)
    (case n_len => k_is)
    (case n_range => k_is)
    (case n_super => k_is)

